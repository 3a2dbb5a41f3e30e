/- Texts laid together: TsD CoQ TqF TrC TqH TqG TqI TqJ. -/
import Derived.Test.YtoepppkadpjonaaGreatNb2
import Derived.Test.YtoepppkadpjonaaGreatNb1
namespace Go.Proofs.YtoepppkadpjonaaGreat
section
set_option maxRecDepth 100000
open Go.RowKit
set_option maxHeartbeats 3200000 in
theorem tproves_any (ep : Int) (a : Option Addr) (n cap : Nat) (l : List Int) (hn : l.length = n) (hm : n ≤ maxLen) (t : ByteArray) (b : Option Addr) (m cp : Nat) (ss : List (Int × ByteArray)) (hsn : ss.length = m) (hsm : m ≤ maxLen) (w : World) (hI : IntsIn w a l) (hP : PairsIn w b ss) :
   Calls Tryz.prog 182 #[.agg #[.int .i64 ep, .slice a n cap], .string t, .slice b m cp] w fun e w' => e = .returned (.bool (provesB ep l t ss)) ∧ Below w.heap.size w w' := by
 have hm2 : (m : Int) ≤ 9223372036854775807 := by unfold maxLen at hsm; omega
 have HH : Hid (∀ (z : Int) (u : World), IntsIn u a l → Calls Tryz.prog 88 #[.agg #[.int .i64 ep, .slice a n cap], .int .i64 z] u fun e w' => e = .returned (.bool (hasM l z)) ∧ Below u.heap.size u w') := hid (fun z u hu => chas_any ep a n cap l hn hm z u hu)
 have HR : Hid (∀ u : World, IntsIn u a l → Calls Tryz.prog 77 #[.agg #[.int .i64 ep, .slice a n cap]] u fun e w' => e = .returned (.bool (rightC ep l)) ∧ Below u.heap.size u w') := hid (fun u hu => cright_any ep a n cap l hn hm u hu)
 obtain ⟨qz, eqz⟩ : ∃ q, q = quoZ (n : Int) := ⟨_, rfl⟩
 have HQx : Hid (∀ u : World, Calls Tryz.prog 198 #[.int .i64 (n : Int)] u fun e w' => e = .returned (.int .i64 qz) ∧ Below u.heap.size u w') := hid (fun u => by rw [eqz]; exact cquorum_any (n : Int) (by unfold maxLen at hm; omega) u)
 obtain ⟨W, eW⟩ : ∃ W, W = w.alloc (.cells #[.int .i64 ep, .slice a n cap] 24) := ⟨_, rfl⟩
 have hbW : Below w.heap.size w W := by rw [eW]; exact (Below.refl _ _).alloc (Nat.le_refl _) _
 have hcf : W.heap[w.heap.size]? = some (.cells [.int .i64 ep, .slice a n cap].toArray 24 (0, 0)) := by rw [eW]; exact heap_alloc_last w _
 have c0 : W.cell? ⟨w.heap.size, 0, none⟩ = some (.int .i64 ep) := cell_at hcf 0 _ rfl
 have c1 : W.cell? ⟨w.heap.size, 1, none⟩ = some (.slice a n cap) := cell_at hcf 1 _ rfl
 have HE := hid eW
 have HW := hid hbW
 have HCf := hid hcf
 have HI := hid (hI.keep hbW (Nat.le_refl _))
 have HP := hid (And.intro (hP.keep hbW (Nat.le_refl _)) hsn)
 have hd : provesB ep l t ss = (okTTo l t ss m && (rightC ep l && (decide (qz ≤ (m : Int)) && decide (m ≤ 16)))) := by rw [provesB, hsn, hn, eqz]
 clear hI hP hsn hsm hn hm eW hbW hcf eqz
 cases hrt : rightC ep l with
 | false =>
   have HRx : Hid (∀ u : World, IntsIn u a l → Calls Tryz.prog 77 #[.agg #[.int .i64 ep, .slice a n cap]] u fun e w' => e = .returned (.bool false) ∧ Below u.heap.size u w') := hid (fun u hu => by rw [← hrt]; exact HR.out u hu)
   have HD : Hid (provesB ep l t ss = false) := hid (by rw [hd, hrt]; simp)
   clear hrt hd
   go_enter Tryz.func182, Tryz.ntmps182
   go_wp2_with (go_at_call 77; have hx := HE.out; rw [← hx]; clear hx; refine (HRx.out _ HI.out).mono ?_; rintro e w2 ⟨rfl, hb2⟩; have H2 := hid hb2; have c2 : w2.cell? ⟨w.heap.size, 1, none⟩ = some (.slice a n cap) := cell_at ((hb2.block _ (lt_of_blk HCf.out)).trans HCf.out) 1 _ rfl; clear hb2 c0 c1)
   go_ret
   exact ⟨by rw [HD.out]; rfl, HW.out.trans (H2.out.mono HW.out.size)⟩
 | true =>
   have HRx : Hid (∀ u : World, IntsIn u a l → Calls Tryz.prog 77 #[.agg #[.int .i64 ep, .slice a n cap]] u fun e w' => e = .returned (.bool true) ∧ Below u.heap.size u w') := hid (fun u hu => by rw [← hrt]; exact HR.out u hu)
   by_cases h1 : (m : Int) < qz
   · have HD : Hid (provesB ep l t ss = false) := hid (by rw [hd, decide_eq_false (show ¬ (qz ≤ (m : Int)) by omega)]; simp)
     clear hrt hd
     go_enter Tryz.func182, Tryz.ntmps182
     go_wp2_with (first
       | (go_at_call 77; have hx := HE.out; rw [← hx]; clear hx; refine (HRx.out _ HI.out).mono ?_; rintro e w2 ⟨rfl, hb2⟩; have H2 := hid hb2; have c2 : w2.cell? ⟨w.heap.size, 1, none⟩ = some (.slice a n cap) := cell_at ((hb2.block _ (lt_of_blk HCf.out)).trans HCf.out) 1 _ rfl; clear hb2 c0 c1)
       | (go_at_call 198; have := H2; refine (HQx.out _).mono ?_; rintro e w3 ⟨rfl, hb3⟩; have H3 := hid (H2.out.trans (hb3.mono H2.out.size)); clear hb3 c2))
     go_ret
     exact ⟨by rw [HD.out]; rfl, HW.out.trans (H3.out.mono HW.out.size)⟩
   · by_cases h2 : m ≤ 16
     · have HD : Hid (provesB ep l t ss = okTTo l t ss m) := hid (by rw [hd, hrt, decide_eq_true (show qz ≤ (m : Int) by omega), decide_eq_true h2]; simp)
       have h3 : ¬ ((16 : Int) < (m : Int)) := by omega
       have h4 : decide ((16 : Int) < (m : Int)) = false := decide_eq_false h3
       have h5 : ¬ (16 < m) := by omega
       clear hrt hd h2
       go_enter Tryz.func182, Tryz.ntmps182
       go_wp2_with (first
         | (go_at_call 77; have hx := HE.out; rw [← hx]; clear hx; refine (HRx.out _ HI.out).mono ?_; rintro e w2 ⟨rfl, hb2⟩; have H2 := hid hb2; have c2 : w2.cell? ⟨w.heap.size, 1, none⟩ = some (.slice a n cap) := cell_at ((hb2.block _ (lt_of_blk HCf.out)).trans HCf.out) 1 _ rfl; clear hb2 c0 c1)
         | (go_at_call 198; have := H2; refine (HQx.out _).mono ?_; rintro e w3 ⟨rfl, hb3⟩; have H3 := hid (H2.out.trans (hb3.mono H2.out.size)); clear hb3 c2))
       clear h1 h3 h4 h5
       go_loopw [28] (fun i wr => ∃ j : Nat, j ≤ m ∧ i = .int .i64 (j : Int) ∧ okTTo l t ss j = true ∧ Below W.heap.size W wr)
         (fun i _ => ((m : Int) - intOf i).toNat)
       case atStart => exact ⟨0, by omega, rfl, rfl, H3.out⟩
       case round =>
         obtain ⟨j, hj, rfl, hok, hbel⟩ := hrel
         have HB := hid hbel
         clear hbel H2 H3 HRx HQx HR
         by_cases hjn : j = m
         · have hj1 : ¬ ((j : Int) < (m : Int)) := by omega
           rw [hjn] at hok
           have HF := hid hok
           clear hok hj hjn
           go_wp2
           go_ret
           exact ⟨by rw [HD.out, HF.out]; rfl, HW.out.trans (HB.out.mono HW.out.size)⟩
         · have hj1 : (j : Int) < (m : Int) := by omega
           have hj0 : (0 : Int) ≤ (j : Int) := Int.natCast_nonneg _
           have hjl : j < ss.length := by rw [HP.out.2]; omega
           obtain ⟨g, off, rfl, hg, x1, y1⟩ := HP.out.1.at j _ (getP_some hjl)
           obtain ⟨x, ex⟩ : ∃ x, x = idOf ss j := ⟨_, rfl⟩
           obtain ⟨r, er⟩ : ∃ r, r = rtOf ss j := ⟨_, rfl⟩
           rw [← ex] at x1
           rw [← er] at y1
           have z0 : wr.cell? ⟨g, off + j * 2, none⟩ = some (.int .i64 x) := (HB.out.cell (p := ⟨g, _, none⟩) hg).trans x1
           have z1 : wr.cell? ⟨g, off + j * 2 + 1, none⟩ = some (.string r) := (HB.out.cell (p := ⟨g, _, none⟩) hg).trans y1
           have hbA : ∀ u : World, Below (wr.alloc (.cells #[.int .i64 x, .string r] 139)).heap.size (wr.alloc (.cells #[.int .i64 x, .string r] 139)) u → Below wr.heap.size wr u := fun u hu => ((Below.refl _ _).alloc (Nat.le_refl _) _).trans (hu.mono (by simp))
           have HBd : Hid (∀ c : Cls (wr.alloc (.cells #[.int .i64 x, .string r] 139)), Below W.heap.size W c.1) := hid (fun c => HB.out.trans ((hbA _ c.2).mono HB.out.size))
           have HBc : Hid (∀ c : Cls (wr.alloc (.cells #[.int .i64 x, .string r] 139)), Below w.heap.size w c.1) := hid (fun c => HW.out.trans ((HBd.out c).mono HW.out.size))
           have HIb : Hid (∀ u : World, Below (wr.alloc (.cells #[.int .i64 x, .string r] 139)).heap.size (wr.alloc (.cells #[.int .i64 x, .string r] 139)) u → IntsIn u a l) := hid (fun u hu => HI.out.keep (HBd.out ⟨u, hu⟩) (Nat.le_refl _))
           have hsb : ∀ c : Cls (wr.alloc (.cells #[.int .i64 x, .string r] 139)), c.1.heap[wr.heap.size]? = some (.cells [.int .i64 x, .string r].toArray 139 (0, 0)) := fun c => (c.2.block _ (by simp)).trans (heap_alloc_last wr _)
           have e0 : ∀ c : Cls (wr.alloc (.cells #[.int .i64 x, .string r] 139)), c.1.cell? ⟨wr.heap.size, 0, none⟩ = some (.int .i64 x) := fun c => cell_at (hsb c) 0 _ rfl
           have e1 : ∀ c : Cls (wr.alloc (.cells #[.int .i64 x, .string r] 139)), c.1.cell? ⟨wr.heap.size, 1, none⟩ = some (.string r) := fun c => cell_at (hsb c) 1 _ rfl
           have e2 : ∀ c : Cls (wr.alloc (.cells #[.int .i64 x, .string r] 139)), c.1.cell? ⟨w.heap.size, 1, none⟩ = some (.slice a n cap) := fun c => cell_at (((HBd.out c).block _ (lt_of_blk HCf.out)).trans HCf.out) 1 _ rfl
           have e4 : ∀ c : Cls (wr.alloc (.cells #[.int .i64 x, .string r] 139)), c.1.cell? ⟨w.heap.size, 0, none⟩ = some (.int .i64 ep) := fun c => cell_at (((HBd.out c).block _ (lt_of_blk HCf.out)).trans HCf.out) 0 _ rfl
           have HJ := hid (And.intro hj hjn)
           clear x1 y1 hsb hbA
           by_cases hr : r.data.toList = t.data.toList
           · obtain rfl : r = t := bytes_eq hr
             cases hh : hasM l x with
             | false =>
               have HHx : Hid (∀ u : World, IntsIn u a l → Calls Tryz.prog 88 #[.agg #[.int .i64 ep, .slice a n cap], .int .i64 x] u fun e w' => e = .returned (.bool false) ∧ Below u.heap.size u w') := hid (fun u hu => by rw [← hh]; exact HH.out x u hu)
               have HFl : Hid (okTTo l r ss m = false) := hid (okTTo_false l r ss (j + 1) m (by rw [okTTo_succ, okT, ← ex, hh]; simp) (by omega))
               clear hok hj hjn hjl ex er hh hr hg
               go_wp2
               haveI := Cls.ne (wr.alloc (.cells #[.int .i64 x, .string r] 139))
               refine wp_region_cls (wr.alloc (.cells #[.int .i64 x, .string r] 139)) (by kernel_rfl) (by kernel_rfl) ?_
               repeat (go_big_quiet_step ((go_at_call 88; exact Cls.of _ (fun u hu => HHx.out u (HIb.out u hu)))))
               refine wpQuiet_nil ?_
               rintro _ ⟨c, rfl⟩
               go_wp2
               go_ret
               exact ⟨by rw [HD.out, HFl.out]; rfl, HBc.out c⟩
             | true =>
               have HHx : Hid (∀ u : World, IntsIn u a l → Calls Tryz.prog 88 #[.agg #[.int .i64 ep, .slice a n cap], .int .i64 x] u fun e w' => e = .returned (.bool true) ∧ Below u.heap.size u w') := hid (fun u hu => by rw [← hh]; exact HH.out x u hu)
               by_cases hz : j = 0
               · have hz1 : ¬ ((0 : Int) < (j : Int)) := by omega
                 have hz2 : decide (0 < j) = false := decide_eq_false (by omega)
                 have HFl : Hid (okTTo l r ss (j + 1) = true) := hid (by rw [okTTo_succ, hok, okT, ← ex, ← er, hh, decide_eq_true hz]; simp)
                 clear hok hj hjn hjl ex er hh hr hg hz
                 go_wp2
                 haveI := Cls.ne (wr.alloc (.cells #[.int .i64 x, .string r] 139))
                 refine wp_region_cls (wr.alloc (.cells #[.int .i64 x, .string r] 139)) (by kernel_rfl) (by kernel_rfl) ?_
                 repeat (go_big_quiet_step ((go_at_call 88; exact Cls.of _ (fun u hu => HHx.out u (HIb.out u hu)))))
                 refine wpQuiet_nil ?_
                 rintro _ ⟨c, rfl⟩
                 go_wp2
                 go_roundw
                 case rel => exact ⟨j + 1, by have := HJ.out; omega, by go_num, HFl.out, HBd.out c⟩
                 case measure => simp [intOf]; omega
               · obtain ⟨i, rfl⟩ : ∃ i, j = i + 1 := ⟨j - 1, by omega⟩
                 have hil : i < ss.length := by omega
                 obtain ⟨g', off', eg, hg', p1, _⟩ := HP.out.1.at i _ (getP_some hil)
                 obtain ⟨rfl, rfl⟩ : g = g' ∧ off = off' := by simp at eg; exact eg
                 obtain ⟨y, ey⟩ : ∃ y, y = idOf ss i := ⟨_, rfl⟩
                 rw [← ey] at p1
                 have e3 : ∀ c : Cls (wr.alloc (.cells #[.int .i64 x, .string r] 139)), c.1.cell? ⟨g, off + i * 2, none⟩ = some (.int .i64 y) := fun c => ((HBd.out c).cell (p := ⟨g, _, none⟩) hg).trans p1
                 have hi0 : (0 : Int) < ((i + 1 : Nat) : Int) := by omega
                 have hi1 : (i : Int) < (m : Int) := by omega
                 have hi2 : (0 : Int) ≤ (i : Int) := by omega
                 have hi3 : decide ((0 : Int) < (i : Int) + 1) = true := decide_eq_true (by omega)
                 by_cases hxy : x ≤ y
                 · have d3 : decide (x ≤ y) = true := decide_eq_true hxy
                   have HFl : Hid (okTTo l r ss m = false) := hid (okTTo_false l r ss (i + 1 + 1) m (by rw [okTTo_succ, okT, ← ex, show i + 1 - 1 = i from rfl, ← ey, decide_eq_false (show ¬ (y < x) by omega), decide_eq_false (show ¬ (i + 1 = 0) by omega)]; simp) (by omega))
                   clear hok hj hjn hjl ex er hh hr hg hz hil eg hg' p1 ey
                   go_wp2
                   haveI := Cls.ne (wr.alloc (.cells #[.int .i64 x, .string r] 139))
                   refine wp_region_cls (wr.alloc (.cells #[.int .i64 x, .string r] 139)) (by kernel_rfl) (by kernel_rfl) ?_
                   repeat (go_big_quiet_step ((go_at_call 88; exact Cls.of _ (fun u hu => HHx.out u (HIb.out u hu)))))
                   refine wpQuiet_nil ?_
                   rintro _ ⟨c, rfl⟩
                   go_wp2
                   go_ret
                   exact ⟨by rw [HD.out, HFl.out]; rfl, HBc.out c⟩
                 · have d3 : decide (x ≤ y) = false := decide_eq_false hxy
                   have HFl : Hid (okTTo l r ss (i + 1 + 1) = true) := hid (by rw [okTTo_succ, hok, okT, ← ex, ← er, hh, show i + 1 - 1 = i from rfl, ← ey, decide_eq_true (show y < x by omega)]; simp)
                   clear hok hj hjn hjl ex er hh hr hg hz hil eg hg' p1 ey
                   go_wp2
                   haveI := Cls.ne (wr.alloc (.cells #[.int .i64 x, .string r] 139))
                   refine wp_region_cls (wr.alloc (.cells #[.int .i64 x, .string r] 139)) (by kernel_rfl) (by kernel_rfl) ?_
                   repeat (go_big_quiet_step ((go_at_call 88; exact Cls.of _ (fun u hu => HHx.out u (HIb.out u hu)))))
                   refine wpQuiet_nil ?_
                   rintro _ ⟨c, rfl⟩
                   go_wp2
                   go_roundw
                   case rel => exact ⟨i + 1 + 1, by have := HJ.out; omega, by go_num, HFl.out, HBd.out c⟩
                   case measure => simp [intOf]; omega
           · have hr2 : ¬ (r = t) := fun h => hr (by rw [h])
             have hr3 : (r.toList == t.toList) = false := text_no hr
             have HHx : Hid (∀ u : World, IntsIn u a l → Calls Tryz.prog 88 #[.agg #[.int .i64 ep, .slice a n cap], .int .i64 x] u fun e w' => e = .returned (.bool (hasM l x)) ∧ Below u.heap.size u w') := hid (fun u hu => HH.out x u hu)
             have HFl : Hid (okTTo l t ss m = false) := hid (okTTo_false l t ss (j + 1) m (by rw [okTTo_succ, okT, ← er, decide_eq_false hr]; simp) (by omega))
             clear hok hj hjn hjl ex er hg hr
             go_wp2
             haveI := Cls.ne (wr.alloc (.cells #[.int .i64 x, .string r] 139))
             refine wp_region_cls (wr.alloc (.cells #[.int .i64 x, .string r] 139)) (by kernel_rfl) (by kernel_rfl) ?_
             repeat (go_big_quiet_step ((go_at_call 88; exact Cls.of _ (fun u hu => HHx.out u (HIb.out u hu)))))
             refine wpQuiet_nil ?_
             rintro _ ⟨c, rfl⟩
             go_wp2
             go_ret
             exact ⟨by rw [HD.out, HFl.out]; rfl, HBc.out c⟩
     · have HD : Hid (provesB ep l t ss = false) := hid (by rw [hd, decide_eq_false h2]; simp)
       have h3 : (16 : Int) < (m : Int) := by omega
       clear hrt hd h2
       go_enter Tryz.func182, Tryz.ntmps182
       go_wp2_with (first
         | (go_at_call 77; have hx := HE.out; rw [← hx]; clear hx; refine (HRx.out _ HI.out).mono ?_; rintro e w2 ⟨rfl, hb2⟩; have H2 := hid hb2; have c2 : w2.cell? ⟨w.heap.size, 1, none⟩ = some (.slice a n cap) := cell_at ((hb2.block _ (lt_of_blk HCf.out)).trans HCf.out) 1 _ rfl; clear hb2 c0 c1)
         | (go_at_call 198; have := H2; refine (HQx.out _).mono ?_; rintro e w3 ⟨rfl, hb3⟩; have H3 := hid (H2.out.trans (hb3.mono H2.out.size)); clear hb3 c2))
       go_ret
       exact ⟨by rw [HD.out]; rfl, HW.out.trans (H3.out.mono HW.out.size)⟩
end
section
set_option maxRecDepth 100000
open Go.RowKit
def CwAt (c lim : Nat) (w0 w : World) (l : List UInt8) : Prop := (∃ v, WrAt w c v (lim : Int) l 0) ∧ Below c w0 w
theorem wL_ok2 (lim : Nat) (l : List UInt8) (s n : Nat) (hn : n < 256 ^ s) (hl : l.length + s ≤ lim) : wL (lim : Int) l 0 s (n : Int) = l ++ be s n ∧ wE (lim : Int) l 0 s (n : Int) = 0 := by
 have h : adm (lim : Int) l.length 0 (inR s (n : Int)) s = 0 := by
   have hi : inR s (n : Int) = true := inR_yes s n hn
   rw [hi]
   unfold adm
   simp
   omega
 exact ⟨by rw [wL, if_pos h, Int.toNat_natCast], by rw [wE, h]⟩
theorem cbyte (c lim : Nat) (w0 w : World) (l : List UInt8) (n : Nat) (hn : n < 256) (hm : lim ≤ 100) (hl : l.length + 1 ≤ lim) (h : CwAt c lim w0 w l) :
   Calls Tryz.prog 118 #[.pointer (some ⟨c, 0, none⟩), .int .i64 (n : Int)] w fun e w' => e = .returned (.tuple #[]) ∧ CwAt c lim w0 w' (l ++ be 1 n) := by
 obtain ⟨⟨v, hv⟩, hb⟩ := h
 refine (wbyte_any c v lim l 0 n w hv (by omega) (by omega) (by omega) (by omega)).mono ?_
 rintro e w' ⟨rfl, v', h', hk, _⟩
 rw [(wL_ok2 lim l 1 n (by omega) hl).1, (wL_ok2 lim l 1 n (by omega) hl).2] at h'
 exact ⟨rfl, ⟨v', h'⟩, hb.trans (hk.below (Nat.le_of_lt hv.lt) (Nat.le_refl _) (fun g hg => by have := (hv.own.lt g hg).1; omega))⟩
theorem cword (c lim : Nat) (w0 w : World) (l : List UInt8) (n : Nat) (hn : n < 65536) (hm : lim ≤ 100) (hl : l.length + 2 ≤ lim) (h : CwAt c lim w0 w l) :
   Calls Tryz.prog 172 #[.pointer (some ⟨c, 0, none⟩), .int .i64 (n : Int)] w fun e w' => e = .returned (.tuple #[]) ∧ CwAt c lim w0 w' (l ++ be 2 n) := by
 obtain ⟨⟨v, hv⟩, hb⟩ := h
 refine (wword_any c v lim l 0 n w hv (by omega) (by omega) (by omega) (by omega)).mono ?_
 rintro e w' ⟨rfl, v', h', hk, _⟩
 rw [(wL_ok2 lim l 2 n (by omega) hl).1, (wL_ok2 lim l 2 n (by omega) hl).2] at h'
 exact ⟨rfl, ⟨v', h'⟩, hb.trans (hk.below (Nat.le_of_lt hv.lt) (Nat.le_refl _) (fun g hg => by have := (hv.own.lt g hg).1; omega))⟩
set_option maxHeartbeats 3200000 in
theorem ctext_any (ep : Int) (a : Option Addr) (n cap : Nat) (l : List Int) (hn : l.length = n) (hm : n ≤ maxLen) (w : World) (hI : IntsIn w a l) :
   Calls Tryz.prog 181 #[.agg #[.int .i64 ep, .slice a n cap]] w fun e w' => e = .returned (.tuple #[.string (textC ep l), .int .i64 (textE ep l)]) ∧ Below w.heap.size w w' := by
 have HR : Hid (∀ (b : Bool), rightC ep l = b → ∀ u : World, IntsIn u a l → Calls Tryz.prog 77 #[.agg #[.int .i64 ep, .slice a n cap]] u fun e w' => e = .returned (.bool b) ∧ Below u.heap.size u w') := hid (fun b hb u hu => by rw [← hb]; exact cright_any ep a n cap l hn hm u hu)
 have HI := hid hI
 have HN := hid hn
 clear hI hm hn
 cases hr : rightC ep l with
 | false =>
   rw [show textC ep l = ⟨#[]⟩ by rw [textC, hr]; rfl, show textE ep l = 1 by rw [textE, hr]; rfl]
   have HRb := hid (HR.out false hr)
   clear hr
   go_enter Tryz.func181, Tryz.ntmps181
   go_wp2_with (go_at_call 77; refine (HRb.out _ (by exact HI.out.alloc _)).mono ?_; rintro e w1 ⟨rfl, hb1⟩; have H1 := hid (((Below.refl w.heap.size w).alloc (Nat.le_refl _) _).trans (hb1.mono (by simp))); clear hb1)
   go_ret2
   exact ⟨rfl, H1.out⟩
 | true =>
   have HRb := hid (HR.out true hr)
   obtain ⟨⟨he0, he60⟩, hmb⟩ := right_mem hr
   have hml := mem_len hmb
   rw [HN.out] at hml
   obtain ⟨E, rfl⟩ : ∃ E : Nat, ep = (E : Int) := ⟨ep.toNat, by omega⟩
   rw [show textE (E : Int) l = 0 by rw [textE, hr]; rfl]
   obtain ⟨T, eT⟩ : ∃ T, T = textC (E : Int) l := ⟨_, rfl⟩
   have HT : Hid (T = ⟨(be 1 67 ++ be 2 E ++ be 1 n ++ memBytes l).toArray⟩) := hid (by rw [eT, textC, hr, if_pos rfl, confB, Int.toNat_natCast, HN.out])
   rw [← eT]
   have HM := hid hmb
   have hn1 : (n : Int) ≤ 10 := by omega
   have hE1 : (E : Int) ≤ 60 := by omega
   have HE := hid (And.intro hml (show E ≤ 60 by omega))
   obtain ⟨M, eM⟩ : ∃ M : Nat, M = 4 + n := ⟨_, rfl⟩
   have HMx : Hid (M = 4 + n ∧ max ((4 : Int) + (n : Int)) 0 = (M : Int)) := hid ⟨eM, by omega⟩
   clear hr he0 he60 hmb hml eT eM
   go_enter Tryz.func181, Tryz.ntmps181
   go_wp2_with (first
     | (go_at_call 77; refine (HRb.out _ (by exact HI.out.alloc _)).mono ?_; rintro e w1 ⟨rfl, hb1⟩
        have c0 : w1.cell? ⟨w.heap.size, 0, none⟩ = some (.int .i64 (E : Int)) := (hb1.cell (p := ⟨w.heap.size, 0, none⟩) (by simp)).trans (cell_at (conf_cells w _ _) 0 _ rfl)
        have c1 : w1.cell? ⟨w.heap.size, 1, none⟩ = some (.slice a n cap) := (hb1.cell (p := ⟨w.heap.size, 1, none⟩) (by simp)).trans (cell_at (conf_cells w _ _) 1 _ rfl)
        have hlt : w.heap.size < w1.heap.size := Nat.lt_of_lt_of_le (by simp) hb1.size
        have H1 := hid (And.intro hlt (And.intro (((Below.refl w.heap.size w).alloc (Nat.le_refl _) _).trans (hb1.mono (by simp))) (And.intro c0 c1)))
        clear hb1 hlt)
     | (go_at_call 117; refine (new_any _ _).mono ?_; rintro e w2 ⟨rfl, hw2⟩
        have H2 : Hid (CwAt w1.heap.size M w1 w2 []) := hid (by rw [hw2, HMx.out.2]; exact ⟨⟨_, ⟨heap_alloc_last w1 _, ⟨rfl, .inl ⟨rfl, rfl⟩⟩⟩⟩, (Below.refl _ _).alloc (Nat.le_refl _) _⟩)
        clear hw2)
     | (go_at_call 172; refine (cword _ M w1 _ (be 1 67) E (by have := HE.out.2; omega) (by have := HE.out.1; have := HMx.out.1; omega) (by rw [be_len]; have := HMx.out.1; have := HE.out.1; omega) (by exact H3.out)).mono ?_; rintro e w4 ⟨rfl, h4⟩; have H4 := hid h4; clear h4; have d1 : w4.cell? ⟨w.heap.size, 1, none⟩ = some (.slice a n cap) := (H4.out.2.cell (p := ⟨w.heap.size, 1, none⟩) H1.out.1).trans H1.out.2.2.2)
     | (go_at_call 118; have := H4; refine (cbyte _ M w1 _ (be 1 67 ++ be 2 E) n (by have := HE.out.1; omega) (by have := HE.out.1; have := HMx.out.1; omega) (by rw [List.length_append, be_len, be_len]; have := HMx.out.1; have := HE.out.1; omega) (by exact H4.out)).mono ?_; rintro e w5 ⟨rfl, h5⟩; have H5 := hid h5; clear h5; have d2 : w5.cell? ⟨w.heap.size, 1, none⟩ = some (.slice a n cap) := (H5.out.2.cell (p := ⟨w.heap.size, 1, none⟩) H1.out.1).trans H1.out.2.2.2)
     | (go_at_call 118; refine (cbyte _ M w1 _ [] 67 (by decide) (by have := HE.out.1; have := HMx.out.1; omega) (by have := HMx.out.1; have := HE.out.1; simp; omega) (by exact H2.out)).mono ?_; rintro e w3 ⟨rfl, h3⟩; have H3 := hid h3; clear h3; have d0 : w3.cell? ⟨w.heap.size, 0, none⟩ = some (.int .i64 (E : Int)) := (H3.out.2.cell (p := ⟨w.heap.size, 0, none⟩) H1.out.1).trans H1.out.2.2.1))
   obtain ⟨P, eP⟩ : ∃ P, P = be 1 67 ++ be 2 E ++ be 1 n := ⟨_, rfl⟩
   rw [← eP] at H5 HT
   have HP : Hid (P.length = 4) := hid (by rw [eP, List.length_append, List.length_append, be_len, be_len, be_len])
   clear eP this
   go_loopw [29] (fun i wr => ∃ j : Nat, j ≤ n ∧ i = .int .i64 (j : Int) ∧ CwAt w1.heap.size M w1 wr (P ++ memBytes (l.take j)))
     (fun i _ => ((n : Int) - intOf i).toNat)
   case atStart => exact ⟨0, by omega, rfl, by rw [List.take_zero, show memBytes [] = [] from rfl, List.append_nil]; exact H5.out⟩
   case round =>
     obtain ⟨j, hj, rfl, hO⟩ := hrel
     have HO := hid hO
     clear hO
     by_cases hjn : j = n
     · have hj1 : ¬ ((j : Int) < (n : Int)) := by omega
       have hO := HO.out
       rw [hjn, List.take_of_length_le (by rw [HN.out]; exact Nat.le_refl _)] at hO
       obtain ⟨⟨v, hv⟩, hb⟩ := hO
       have HV := hid hv
       have HB := hid hb
       clear hj hjn hv hb
       go_wp2_with (go_at_call 123; refine (done_ok _ _ _ _ _ (by exact HV.out)).mono ?_; rintro e wx ⟨rfl, rfl⟩)
       go_ret2
       exact ⟨by rw [HT.out]; rfl, H1.out.2.1.trans (HB.out.mono (Nat.le_of_lt H1.out.1))⟩
     · have hj1 : (j : Int) < (n : Int) := by omega
       have hj0 : (0 : Int) ≤ (j : Int) := Int.natCast_nonneg _
       have hjl : j < l.length := by rw [HN.out]; omega
       have hrg := mem_range HM.out j hjl
       have HS := hid (memBytes_snoc l j hjl)
       obtain ⟨g, off, rfl, hg, hcell⟩ := HI.out.at j _ (getD_some hjl)
       generalize l.getD j 0 = x at hrg HS hcell
       obtain ⟨X, rfl⟩ : ∃ X : Nat, x = (X : Int) := ⟨x.toNat, by omega⟩
       rw [Int.toNat_natCast] at HS
       have cz : wr.cell? ⟨g, off + j, none⟩ = some (.int .i64 (X : Int)) := (HO.out.2.cell (p := ⟨g, off + j, none⟩) (Nat.lt_of_lt_of_le hg H1.out.2.1.size)).trans ((H1.out.2.1.cell (p := ⟨g, off + j, none⟩) hg).trans hcell)
       have HX : Hid (X < 256 ∧ (P ++ memBytes (l.take j)).length + 1 ≤ M ∧ M ≤ 100) := hid ⟨by omega, by rw [List.length_append, HP.out, memBytes_len, List.length_take, HMx.out.1]; omega, by have := HMx.out.1; omega⟩
       have HJ := hid (And.intro hj hjn)
       clear hj hjn hjl hrg hg hcell
       go_wp2_with (go_at_call 118; refine (cbyte _ M w1 _ (P ++ memBytes (l.take j)) X (by exact HX.out.1) (by exact HX.out.2.2) (by exact HX.out.2.1) (by exact HO.out)).mono ?_; rintro e w6 ⟨rfl, h6⟩; have H6 := hid h6; clear h6)
       go_roundw
       case rel => exact ⟨j + 1, by have := HJ.out; omega, by go_num, by rw [HS.out, ← List.append_assoc]; exact H6.out⟩
       case measure => simp [intOf]; omega
end
section
set_option maxRecDepth 100000
open Go.RowKit
theorem TkAt.fresh {w u : World} {a : Option Addr} {c : Nat} {l : List Int} (hN : NewI w.heap.size u a l) (hb : Below w.heap.size w u) (_hl : l.length ≤ 10) :
   TkAt w.heap.size (fun k => k < u.heap.size ∧ w.heap.size ≤ k) ((u.alloc (.cells #[.int .i64 0, .slice a l.length c, .slice none 0 0] 74)).alloc (.cells #[.slice (some ⟨u.heap.size, 0, none⟩) 1 1] 135)) (u.heap.size + 1) (.slice (some ⟨u.heap.size, 0, none⟩) 1 1) l [] := by
 have hA := ((Below.refl u.heap.size u).alloc (Nat.le_refl _) (.cells #[.int .i64 0, .slice a l.length c, .slice none 0 0] 74)).alloc (by simp) (.cells #[.slice (some ⟨u.heap.size, 0, none⟩) 1 1] 135)
 have hs := hb.size
 refine ⟨snd_alloc u _ _, ⟨⟨[.int .i64 0, .slice a l.length c, .slice none 0 0], ⟨rfl, .inr ⟨u.heap.size, 1, #[.int .i64 0, .slice a l.length c, .slice none 0 0], rfl, hs, ?_, Nat.le_refl _, by unfold maxLen; omega, rfl, rfl⟩⟩, fun j e he => ?_⟩, fun g hg hF => ?_⟩, ?_, fun hF => ?_, ?_, fun k hk => ?_⟩
 · rw [heap_alloc_old _ _ (by simp)]
   exact heap_alloc_last u _
 · match j, he with
   | 0, he =>
     cases he
     refine ⟨rfl, fun q d hd => ?_⟩
     match q, hd with
     | 0, hd => cases hd; exact ⟨_, rfl, .i _⟩
     | 1, hd => cases hd; exact ⟨_, rfl, ints_reads (hN.ints.keep hA (Nat.le_refl _)) (fun x hx hne => ⟨(hN.far x hx).2.lt, (hN.far x hx).1⟩)⟩
     | 2, hd => cases hd; exact ⟨_, rfl, .nil none 0 2⟩
 · cases hg
   exact absurd hF.1 (Nat.lt_irrefl _)
 · simp
   omega
 · omega
 · intro e
   simp [Value.ownBlock] at e
 · simp
   omega
set_option maxHeartbeats 3200000 in
theorem lnew_any (e : Int) (a : Option Addr) (n cap : Nat) (l : List Int) (hn : l.length = n) (hm : n ≤ maxLen) (w : World) (hI : IntsIn w a l) :
   Calls Tryz.prog 39 #[.agg #[.int .i64 e, .slice a n cap]] w fun r w' => Below w.heap.size w w' ∧ ((rightC e l = true ∧ e = 0) → ∃ v O, r = .returned (.tuple #[v, .int .i64 0]) ∧ TrAt O w' v l [] ∧ ∀ k, O k → w.heap.size ≤ k) ∧ (¬ (rightC e l = true ∧ e = 0) → r = .returned (.tuple #[.pointer none, .int .i64 1])) := by
 have HR : Hid (∀ (B : Bool), rightC e l = B → ∀ u : World, IntsIn u a l → Calls Tryz.prog 77 #[.agg #[.int .i64 e, .slice a n cap]] u fun e w' => e = .returned (.bool B) ∧ Below u.heap.size u w') := hid (fun B hB u hu => by rw [← hB]; exact cright_any e a n cap l hn hm u hu)
 have hA : Below w.heap.size w (w.alloc (.cells #[.int .i64 e, .slice a n cap] 24)) := (Below.refl _ _).alloc (Nat.le_refl _) _
 have H0 : Hid (IntsIn (w.alloc (.cells #[.int .i64 e, .slice a n cap] 24)) a l ∧ Below w.heap.size w (w.alloc (.cells #[.int .i64 e, .slice a n cap] 24)) ∧ CfAt (w.alloc (.cells #[.int .i64 e, .slice a n cap] 24)) w.heap.size e (.slice a n cap)) := hid ⟨hI.keep hA (Nat.le_refl _), hA, heap_alloc_last w _⟩
 have HI := hid (And.intro hI hn)
 clear hA hI hn
 cases hr : rightC e l with
 | false =>
   have HRb := hid (HR.out false hr)
   have HQ : Hid (¬ ((false = true) ∧ e = 0)) := hid (by simp)
   clear hr
   go_enter Tryz.func39, Tryz.ntmps39
   go_wp2_with (go_at_call 77; refine (HRb.out _ (by exact H0.out.1)).mono ?_; rintro r w1 ⟨rfl, hb1⟩; have H1 := hid (H0.out.2.1.trans (hb1.mono H0.out.2.1.size)); clear hb1)
   go_ret2
   exact ⟨H1.out, fun hq => absurd hq HQ.out, fun _ => rfl⟩
 | true =>
   have HRb := hid (HR.out true hr)
   have HL := hid (mem_len (right_mem hr).2).2
   clear hr
   by_cases hz : e = 0
   · subst hz
     go_enter Tryz.func39, Tryz.ntmps39
     go_wp2_with (first
       | (go_at_call 77; refine (HRb.out _ (by exact H0.out.1)).mono ?_; rintro r w1 ⟨rfl, hb1⟩
          have H1 := hid (And.intro (H0.out.2.1.trans (hb1.mono H0.out.2.1.size)) (And.intro (H0.out.1.keep hb1 (Nat.le_refl _)) (H0.out.2.2.keep hb1))); clear hb1; have x0 := H1.out.2.2.cells.1; have x1 := H1.out.2.2.cells.2)
       | (go_at_call 78; refine (lcopyConf_any _ _ _ _ l HI.out.2 (by have := HL.out; have := HI.out.2; omega) _ (by exact H1.out.2.1)).mono ?_; rintro r w2 ⟨a2, c2, rfl, hN2, hb2⟩; have H2 := hid (And.intro (hN2.low H1.out.1.size) (H1.out.1.trans (hb2.mono H1.out.1.size))); clear hN2 hb2))
     go_ret2
     have hT := TkAt.fresh (c := c2) H2.out.1 H2.out.2 HL.out
     rw [HI.out.2] at hT
     refine ⟨(H2.out.2.alloc H2.out.2.size _).alloc (by have := H2.out.2.size; simp; omega) _, fun _ => ⟨_, _, rfl, ⟨_, _, _, _, rfl, hT, fun k => Iff.rfl⟩, ?_⟩, fun hq => absurd ⟨trivial, trivial⟩ hq⟩
     have hs := H2.out.2.size
     rintro k (rfl | hk | hk)
     · omega
     · exact hk.2
     · cases hk; exact hs
   · have hzb : (e != 0) = true := by simpa using hz
     have HQ : Hid (¬ ((true = true) ∧ e = 0)) := hid (fun h => hz h.2)
     clear hz
     go_enter Tryz.func39, Tryz.ntmps39
     go_wp2_with (go_at_call 77; refine (HRb.out _ (by exact H0.out.1)).mono ?_; rintro r w1 ⟨rfl, hb1⟩
                  have H1 := hid (And.intro (H0.out.2.1.trans (hb1.mono H0.out.2.1.size)) (H0.out.2.2.keep hb1)); clear hb1; have x0 := H1.out.2.cells.1; have x1 := H1.out.2.cells.2)
     go_ret2
     exact ⟨H1.out.1, fun hq => absurd hq HQ.out, fun _ => rfl⟩
set_option maxHeartbeats 3200000 in
theorem lvalid_any (ep : Int) (a : Option Addr) (n cap : Nat) (l : List Int) (hn : l.length = n) (hm : n ≤ maxLen) (e2 : Int) (a2 : Option Addr) (n2 c2 : Nat) (l2 : List Int) (hn2 : l2.length = n2) (hm2 : n2 ≤ maxLen) (b : Option Addr) (m cp : Nat) (ss : List (Int × ByteArray)) (hsn : ss.length = m) (hsm : m ≤ maxLen) (w : World) (hI : IntsIn w a l) (hI2 : IntsIn w a2 l2) (hP : PairsIn w b ss) :
   Calls Tryz.prog 143 #[.agg #[.int .i64 ep, .slice a n cap], .agg #[.int .i64 e2, .slice a2 n2 c2, .slice b m cp]] w fun e w' => e = .returned (.int .i64 (validE ep l e2 l2 ss)) ∧ Below w.heap.size w w' := by
 have HR : Hid (∀ (B : Bool), rightC ep l = B → ∀ u : World, IntsIn u a l → Calls Tryz.prog 77 #[.agg #[.int .i64 ep, .slice a n cap]] u fun e w' => e = .returned (.bool B) ∧ Below u.heap.size u w') := hid (fun B hB u hu => by rw [← hB]; exact cright_any ep a n cap l hn hm u hu)
 have HT : Hid (∀ (E : Int), textE e2 l2 = E → ∀ u : World, IntsIn u a2 l2 → Calls Tryz.prog 181 #[.agg #[.int .i64 e2, .slice a2 n2 c2]] u fun e w' => e = .returned (.tuple #[.string (textC e2 l2), .int .i64 E]) ∧ Below u.heap.size u w') := hid (fun E hE u hu => by rw [← hE]; exact ctext_any e2 a2 n2 c2 l2 hn2 hm2 u hu)
 have HPv : Hid (∀ (B : Bool), provesB ep l (textC e2 l2) ss = B → ∀ u : World, IntsIn u a l → PairsIn u b ss → Calls Tryz.prog 182 #[.agg #[.int .i64 ep, .slice a n cap], .string (textC e2 l2), .slice b m cp] u fun e w' => e = .returned (.bool B) ∧ Below u.heap.size u w') := hid (fun B hB u hu hv => by rw [← hB]; exact tproves_any ep a n cap l hn hm (textC e2 l2) b m cp ss hsn hsm u hu hv)
 have H0 : Hid (VaSt w ep (.slice a n cap) e2 (.slice a2 n2 c2) (.slice b m cp) ((w.alloc (.cells #[.int .i64 ep, .slice a n cap] 24)).alloc (.cells #[.int .i64 e2, .slice a2 n2 c2, .slice b m cp] 74))) := hid
   ⟨(Below.heap_alloc _ _ _ (by simp)).trans (heap_alloc_last w _), snd_alloc w _ _, ((Below.refl _ _).alloc (Nat.le_refl _) _).alloc (by simp) _⟩
 have HD : Hid (∀ u : World, Below w.heap.size w u → IntsIn u a l ∧ IntsIn u a2 l2 ∧ PairsIn u b ss) := hid (fun u hu => ⟨hI.keep hu (Nat.le_refl _), hI2.keep hu (Nat.le_refl _), hP.keep hu (Nat.le_refl _)⟩)
 clear hI hI2 hP hn hm hn2 hm2 hsn hsm
 cases hr : rightC ep l with
 | false =>
   rw [show validE ep l e2 l2 ss = 1 by rw [validE, if_pos hr]]
   have HRb := hid (HR.out false hr)
   clear hr
   go_enter Tryz.func143, Tryz.ntmps143
   go_wp2_with (go_at_call 77; refine (HRb.out _ (by exact (HD.out _ H0.out.bel).1)).mono ?_; rintro e w1 ⟨rfl, hb1⟩; have H1 := hid (H0.out.keep hb1); clear hb1)
   go_ret
   exact ⟨rfl, H1.out.bel⟩
 | true =>
   have HRb := hid (HR.out true hr)
   have hep : 0 ≤ ep ∧ ep ≤ 60 := (right_mem hr).1
   have hep0 := hep.1
   have hep1 := hep.2
   clear hep
   cases hr2 : rightC e2 l2 with
   | false =>
     rw [show validE ep l e2 l2 ss = 1 by rw [validE, if_neg (by rw [hr]; decide), if_pos hr2]]
     have HTb := hid (HT.out 1 (by rw [textE, hr2]; rfl))
     clear hr hr2
     generalize textC e2 l2 = T at HTb
     go_enter Tryz.func143, Tryz.ntmps143
     go_wp2_with (first
       | (go_at_call 77; refine (HRb.out _ (by exact (HD.out _ H0.out.bel).1)).mono ?_; rintro e w1 ⟨rfl, hb1⟩; have H1 := hid (H0.out.keep hb1); clear hb1; have z0 := H1.out.ln.cells.1; have z1 := H1.out.ln.cells.2.1)
       | (go_at_call 181; refine (HTb.out _ (by exact (HD.out _ H1.out.bel).2.1)).mono ?_; rintro e w2 ⟨rfl, hb2⟩; have H2 := hid (H1.out.keep hb2); clear hb2; have y0 := H2.out.ln.cells.1; have y1 := (cell_two H2.out.old).1; have y2 := (cell_two H2.out.old).2; have y3 := H2.out.ln.cells.2.2))
     go_ret
     exact ⟨rfl, H2.out.bel⟩
   | true =>
     have HTb := hid (HT.out 0 (by rw [textE, hr2]; rfl))
     have he2 : e2 ≤ 60 := (right_mem hr2).1.2
     by_cases hz : e2 = ep + 1
     · have hzb : (e2 != ep + 1) = false := by simp [hz]
       have HV : Hid (∀ B, provesB ep l (textC e2 l2) ss = B → validE ep l e2 l2 ss = if B = false then 15 else 0) := hid (fun B hB => by rw [validE, if_neg (by rw [hr]; decide), if_neg (by rw [hr2]; decide), if_neg (fun h => h hz), hB])
       clear hr hr2 hz
       cases hp : provesB ep l (textC e2 l2) ss with
       | false =>
         rw [HV.out false hp, if_pos rfl]
         have HPb := hid (HPv.out false hp)
         clear hp
         generalize textC e2 l2 = T at HTb HPb
         go_enter Tryz.func143, Tryz.ntmps143
         go_wp2_with (first
           | (go_at_call 77; refine (HRb.out _ (by exact (HD.out _ H0.out.bel).1)).mono ?_; rintro e w1 ⟨rfl, hb1⟩; have H1 := hid (H0.out.keep hb1); clear hb1; have z0 := H1.out.ln.cells.1; have z1 := H1.out.ln.cells.2.1)
           | (go_at_call 181; refine (HTb.out _ (by exact (HD.out _ H1.out.bel).2.1)).mono ?_; rintro e w2 ⟨rfl, hb2⟩; have H2 := hid (H1.out.keep hb2); clear hb2; have y0 := H2.out.ln.cells.1; have y1 := (cell_two H2.out.old).1; have y2 := (cell_two H2.out.old).2; have y3 := H2.out.ln.cells.2.2)
           | (go_at_call 182; refine (HPb.out _ (by exact (HD.out _ H2.out.bel).1) (by exact (HD.out _ H2.out.bel).2.2)).mono ?_; rintro e w3 ⟨rfl, hb3⟩; have H3 := hid (H2.out.keep hb3); clear hb3))
         go_ret
         exact ⟨rfl, H3.out.bel⟩
       | true =>
         rw [HV.out true hp, if_neg (by decide)]
         have HPb := hid (HPv.out true hp)
         clear hp
         generalize textC e2 l2 = T at HTb HPb
         go_enter Tryz.func143, Tryz.ntmps143
         go_wp2_with (first
           | (go_at_call 77; refine (HRb.out _ (by exact (HD.out _ H0.out.bel).1)).mono ?_; rintro e w1 ⟨rfl, hb1⟩; have H1 := hid (H0.out.keep hb1); clear hb1; have z0 := H1.out.ln.cells.1; have z1 := H1.out.ln.cells.2.1)
           | (go_at_call 181; refine (HTb.out _ (by exact (HD.out _ H1.out.bel).2.1)).mono ?_; rintro e w2 ⟨rfl, hb2⟩; have H2 := hid (H1.out.keep hb2); clear hb2; have y0 := H2.out.ln.cells.1; have y1 := (cell_two H2.out.old).1; have y2 := (cell_two H2.out.old).2; have y3 := H2.out.ln.cells.2.2)
           | (go_at_call 182; refine (HPb.out _ (by exact (HD.out _ H2.out.bel).1) (by exact (HD.out _ H2.out.bel).2.2)).mono ?_; rintro e w3 ⟨rfl, hb3⟩; have H3 := hid (H2.out.keep hb3); clear hb3))
         go_ret
         exact ⟨rfl, H3.out.bel⟩
     · have hzb : (e2 != ep + 1) = true := by simpa using hz
       rw [show validE ep l e2 l2 ss = 12 by rw [validE, if_neg (by rw [hr]; decide), if_neg (by rw [hr2]; decide), if_pos hz]]
       clear hr hr2 hz
       generalize textC e2 l2 = T at HTb
       go_enter Tryz.func143, Tryz.ntmps143
       go_wp2_with (first
         | (go_at_call 77; refine (HRb.out _ (by exact (HD.out _ H0.out.bel).1)).mono ?_; rintro e w1 ⟨rfl, hb1⟩; have H1 := hid (H0.out.keep hb1); clear hb1; have z0 := H1.out.ln.cells.1; have z1 := H1.out.ln.cells.2.1)
         | (go_at_call 181; refine (HTb.out _ (by exact (HD.out _ H1.out.bel).2.1)).mono ?_; rintro e w2 ⟨rfl, hb2⟩; have H2 := hid (H1.out.keep hb2); clear hb2; have y0 := H2.out.ln.cells.1; have y1 := (cell_two H2.out.old).1; have y2 := (cell_two H2.out.old).2; have y3 := H2.out.ln.cells.2.2))
       go_ret
       exact ⟨rfl, H2.out.bel⟩
end
section
open Go.RowKit
def Good (ls : List Lk) : Prop := ∀ (i : Nat) (k : Lk), ls[i]? = some k → k.1 = (i : Int) + 1 ∧ rightC k.1 k.2.1 = true ∧ k.2.2.length ≤ 16
theorem validE_ok {ep : Int} {l : List Int} {e2 : Int} {l2 : List Int} {ss : List (Int × ByteArray)} (h0 : validE ep l e2 l2 ss = 0) : rightC ep l = true ∧ rightC e2 l2 = true ∧ e2 = ep + 1 ∧ ss.length ≤ 16 := by
 unfold validE at h0
 split at h0
 · cases h0
 · next h1 =>
   split at h0
   · cases h0
   · next h2 =>
     split at h0
     · cases h0
     · next h3 =>
       split at h0
       · cases h0
       · next h4 =>
         have hp : provesB ep l (textC e2 l2) ss = true := by simpa using h4
         rw [provesB, Bool.and_eq_true_iff, Bool.and_eq_true_iff, Bool.and_eq_true_iff] at hp
         have h6 := of_decide_eq_true hp.2.2.2
         exact ⟨by simpa using h1, by simpa using h2, by simpa using h3, by omega⟩
theorem lastZ_good {ls : List Lk} (h : Good ls) : lastZ 0 ls = (ls.length : Int) := by
 unfold lastZ atZ
 split
 · next h0 => omega
 · next h0 =>
   rw [if_pos (by omega)]
   have hj : ((ls.length : Int) - 1).toNat < ls.length := by omega
   rw [List.getD_eq_getElem?_getD, List.getElem?_eq_getElem hj]
   have := (h _ _ (List.getElem?_eq_getElem hj)).1
   simp only [Option.getD_some]
   omega
theorem Good.nil : Good [] := fun i k h => by simp at h
theorem Good.add {fm : List Int} {ls : List Lk} {k : Lk} (h : Good ls) (h0 : addE 0 fm ls k = 0) : Good (ls ++ [k]) := fun i x hx => by
 rcases Nat.lt_trichotomy i ls.length with hi | hi | hi
 · rw [List.getElem?_append_left hi] at hx
   exact h i x hx
 · subst hi
   rw [List.getElem?_append_right (Nat.le_refl _), Nat.sub_self] at hx
   cases hx
   have hv := validE_ok h0
   rw [lastZ_good h] at hv
   exact ⟨hv.2.2.1, hv.2.1, hv.2.2.2⟩
 · rw [List.getElem?_eq_none (by rw [List.length_append, List.length_singleton]; omega)] at hx
   cases hx
theorem Good.chain {fm : List Int} : ∀ {cs pre : List Lk}, Good pre → chainE 0 fm pre cs = 0 → Good (pre ++ cs)
 | [], pre, h, _ => by rw [List.append_nil]; exact h
 | k :: cs, pre, h, h0 => by
   rw [chainE] at h0
   split at h0
   · next h1 =>
     have := Good.chain (h.add h1) h0
     rw [List.append_assoc] at this
     exact this
   · next h1 => exact absurd h0 h1
theorem good_of {fm : List Int} {ls : List Lk} (h : chainE 0 fm [] ls = 0) : Good ls := Good.chain (pre := []) Good.nil h
theorem Good.len {ls : List Lk} (h : Good ls) : ls.length ≤ 60 := by
 cases hl : ls.length with
 | zero => omega
 | succ n =>
   have hj : n < ls.length := by omega
   obtain ⟨h1, h2, _⟩ := h n _ (List.getElem?_eq_getElem hj)
   rw [rightC, Bool.and_eq_true_iff] at h2
   have := of_decide_eq_true h2.1
   omega
theorem Good.small {ls : List Lk} (h : Good ls) (k : Lk) (hk : k ∈ ls) : k.2.1.length ≤ 10 ∧ k.2.2.length ≤ 16 := by
 obtain ⟨i, hi⟩ := List.mem_iff_getElem?.1 hk
 obtain ⟨_, h2, h3⟩ := h i k hi
 exact ⟨(mem_len (right_mem h2).2).2, h3⟩
theorem take_ok {fm : List Int} {ls cs : List Lk} (h : takeE 0 fm ls cs = 0) : chainE 0 fm [] cs = 0 ∧ otherTo ls cs cs.length = false ∧ ls.length < cs.length ∧ cs.length ≤ 64 := by
 unfold takeE at h
 split at h
 · cases h
 · next h1 =>
   split at h
   · next h2 => exact absurd h h2
   · next h2 =>
     split at h
     · cases h
     · next h3 =>
       split at h
       · cases h
       · exact ⟨by simpa using h2, by simpa using h3, by omega, by omega⟩
end
section
set_option maxRecDepth 100000
open Go.RowKit
theorem lastZ_snoc (ep : Int) (pre : List Lk) (k : Lk) : lastZ ep (pre ++ [k]) = k.1 := by
 unfold lastZ atZ
 have hl : (pre ++ [k]).length = pre.length + 1 := by simp
 rw [if_neg (by omega), if_pos (by omega), show (((pre ++ [k]).length : Int) - 1).toNat = pre.length by omega, List.getD_eq_getElem?_getD, List.getElem?_append_right (Nat.le_refl _), Nat.sub_self]
 rfl
theorem lastM_snoc (fm : List Int) (pre : List Lk) (k : Lk) : lastM fm (pre ++ [k]) = k.2.1 := by
 unfold lastM atM
 have hl : (pre ++ [k]).length = pre.length + 1 := by simp
 rw [if_neg (by omega), if_pos (by omega), show (((pre ++ [k]).length : Int) - 1).toNat = pre.length by omega, List.getD_eq_getElem?_getD, List.getElem?_append_right (Nat.le_refl _), Nat.sub_self]
 rfl
structure WkSt (w0 w : World) (fm : List Int) (pre : List Lk) (ad : Option Addr) (cap : Nat) : Prop where
 old : CfAt w w0.heap.size (lastZ 0 pre) (.slice ad (lastM fm pre).length cap)
 mem : IntsIn w0 ad (lastM fm pre)
 bel : Below w0.heap.size w0 w
theorem WkSt.keep {w0 w w' : World} {fm : List Int} {pre : List Lk} {ad : Option Addr} {cap : Nat} (h : WkSt w0 w fm pre ad cap) (hb : Below w.heap.size w w') : WkSt w0 w' fm pre ad cap :=
 ⟨h.old.keep hb, h.mem, h.bel.trans (hb.mono h.bel.size)⟩
set_option maxHeartbeats 3200000 in
theorem lwalk_any (fm : List Int) (hfm : fm.length ≤ maxLen) (a : Option Addr) (c : Nat) (G : Nat → Prop) (cv : Value) (cs : List Lk) (hcs : ∀ k, k ∈ cs → k.2.1.length ≤ maxLen ∧ k.2.2.length ≤ maxLen) (hl : cs.length ≤ 64) (w : World) (hI : IntsIn w a fm) (hC : Reads G w cv (.l 3 (dLks cs))) :
   Calls Tryz.prog 95 #[.agg #[.int .i64 0, .slice a fm.length c], cv] w fun r w' => r = .returned (.int .i64 (chainE 0 fm [] cs)) ∧ Below w.heap.size w w' := by
 obtain ⟨ca, cc, hv⟩ := lks_form hC
 subst hv
 have hl2 : (cs.length : Int) ≤ 64 := by omega
 have H0 : Hid (WkSt w (w.alloc (.cells #[.int .i64 0, .slice a fm.length c] 24)) fm [] a c) := hid ⟨heap_alloc_last w _, hI, (Below.refl _ _).alloc (Nat.le_refl _) _⟩
 have HC := hid (And.intro hC hcs)
 have HL := hid hfm
 clear hI hC hcs hfm hl
 go_enter Tryz.func95, Tryz.ntmps95
 go_wp2
 go_loopw [10] (fun i wr => ∃ (j : Nat) (ad : Option Addr) (cap : Nat), j ≤ cs.length ∧ i = .int .i64 (j : Int) ∧ WkSt w wr fm (cs.take j) ad cap ∧ chainE 0 fm (cs.take j) (cs.drop j) = chainE 0 fm [] cs)
   (fun i _ => ((cs.length : Int) - intOf i).toNat)
 case atStart => exact ⟨0, a, c, by omega, rfl, H0.out, rfl⟩
 case round =>
   obtain ⟨j, ad, cap, hj, rfl, hS, hch⟩ := hrel
   have HS := hid (And.intro hS hch)
   clear hS hch
   by_cases hjn : j = cs.length
   · have hj1 : ¬ ((j : Int) < (cs.length : Int)) := by omega
     have HE : Hid (chainE 0 fm [] cs = 0) := hid (by rw [← HS.out.2, List.drop_eq_nil_of_le (by omega)]; rfl)
     clear hj hjn
     go_wp2
     go_ret
     exact ⟨by rw [HE.out]; rfl, HS.out.1.bel⟩
   · have hj1 : (j : Int) < (cs.length : Int) := by omega
     have hj0 : (0 : Int) ≤ (j : Int) := Int.natCast_nonneg _
     obtain ⟨k, hk⟩ : ∃ k, cs[j]? = some k := ⟨_, List.getElem?_eq_getElem (by omega)⟩
     obtain ⟨g, off, _, a1, c1, a2, c2, hv, hg, k0, k1, k2, hi1, hp1⟩ := lks_at HC.out.1 j k hk
     cases hv
     have x0 := (HS.out.1.bel.cell (p := ⟨g, _, none⟩) hg).trans k0
     have x1 := (HS.out.1.bel.cell (p := ⟨g, _, none⟩) hg).trans k1
     have x2 := (HS.out.1.bel.cell (p := ⟨g, _, none⟩) hg).trans k2
     have hA : Below wr.heap.size wr (wr.alloc (.cells #[.int .i64 k.1, .slice a1 k.2.1.length c1, .slice a2 k.2.2.length c2] 74)) := (Below.refl _ _).alloc (Nat.le_refl _) _
     have H1 : Hid (WkSt w (wr.alloc (.cells #[.int .i64 k.1, .slice a1 k.2.1.length c1, .slice a2 k.2.2.length c2] 74)) fm (cs.take j) ad cap ∧ LnAt (wr.alloc (.cells #[.int .i64 k.1, .slice a1 k.2.1.length c1, .slice a2 k.2.2.length c2] 74)) wr.heap.size k.1 (.slice a1 k.2.1.length c1) (.slice a2 k.2.2.length c2)) := hid ⟨HS.out.1.keep hA, heap_alloc_last wr _⟩
     have y0 := H1.out.1.old.cells.1
     have y1 := H1.out.1.old.cells.2
     have HI : Hid (∀ u, Below w.heap.size w u → IntsIn u a1 k.2.1 ∧ PairsIn u a2 k.2.2 ∧ IntsIn u ad (lastM fm (cs.take j))) := hid (fun u hu => ⟨hi1.keep hu (Nat.le_refl _), hp1.keep hu (Nat.le_refl _), HS.out.1.mem.keep hu (Nat.le_refl _)⟩)
     have HI0 := hid hi1
     have HJ := hid (And.intro hj (And.intro hjn hk))
     have HZ := hid (HC.out.2 k (List.mem_of_getElem? hk))
     have HM := hid (lastM_len fm (cs.take j) HL.out (fun x hx => (HC.out.2 x (List.mem_of_mem_take hx)).1))
     have HTk : Hid (cs.take (j + 1) = cs.take j ++ [k]) := hid (by
       obtain ⟨h1, h2⟩ := List.getElem?_eq_some_iff.1 hk
       rw [List.take_succ_eq_append_getElem h1, h2])
     clear hi1 hp1 k0 k1 k2 hj hjn hk hg hA
     have HVa : Hid (∀ E, addE 0 fm (cs.take j) k = E → ∀ u, Below w.heap.size w u → Calls Tryz.prog 143 #[.agg #[.int .i64 (lastZ 0 (cs.take j)), .slice ad (lastM fm (cs.take j)).length cap], .agg #[.int .i64 k.1, .slice a1 k.2.1.length c1, .slice a2 k.2.2.length c2]] u fun r w' => r = .returned (.int .i64 E) ∧ Below u.heap.size u w') := hid (fun E hE u hu => by rw [← hE]; exact lvalid_any _ ad _ cap _ rfl HM.out k.1 a1 _ c1 _ rfl HZ.out.1 a2 _ c2 _ rfl HZ.out.2 u (HI.out u hu).2.2 (HI.out u hu).1 (HI.out u hu).2.1)
     by_cases hE : addE 0 fm (cs.take j) k = 0
     · have HVb := hid (HVa.out 0 hE)
       have HE := hid hE
       clear hE
       generalize hz0 : lastZ 0 (cs.take j) = z0 at *
       generalize hm0 : lastM fm (cs.take j) = m0 at *
       have HG := hid (And.intro hz0 hm0)
       clear hz0 hm0
       go_wp2_with (go_at_call 143; refine (HVb.out _ (by exact H1.out.1.bel)).mono ?_; rintro r w2 ⟨rfl, hb2⟩
                    have H2 := hid (And.intro (H1.out.1.keep hb2) (H1.out.2.keep hb2))
                    clear hb2
                    have u0 := H2.out.2.cells.1
                    have u1 := H2.out.2.cells.2.1
                    have u2 := H2.out.1.old.cells.1
                    have u3 := H2.out.1.old.cells.2
                    have f0 := free_at H2.out.1.old 0
                    have f1 := free_at H2.out.1.old 1)
       go_roundw
       case rel =>
         refine ⟨j + 1, a1, c1, by have := HJ.out; omega, rfl, ⟨?_, ?_, (H2.out.1.bel.setCell (p := ⟨w.heap.size, 0, none⟩) (Nat.le_refl _) _).setCell (p := ⟨w.heap.size, 1, none⟩) (Nat.le_refl _) _⟩, ?_⟩
         · rw [HTk.out, lastZ_snoc, lastM_snoc]
           exact res_put2 H2.out.1.old
         · rw [HTk.out, lastM_snoc]
           exact HI0.out
         · rw [chainE_step 0 fm cs j k HJ.out.2.2 HE.out]
           exact HS.out.2
       case measure => have := HJ.out; simp [intOf]; omega
     · have HVb := hid (HVa.out _ rfl)
       have HR : Hid (chainE 0 fm [] cs = addE 0 fm (cs.take j) k) := hid (by rw [← HS.out.2]; exact chainE_stop 0 fm cs j k HJ.out.2.2 hE)
       generalize addE 0 fm (cs.take j) k = E at *
       have hEb : (E != 0) = true := by simpa using hE
       generalize lastZ 0 (cs.take j) = z0 at *
       generalize lastM fm (cs.take j) = m0 at *
       go_wp2_with (go_at_call 143; refine (HVb.out _ (by exact H1.out.1.bel)).mono ?_; rintro r w2 ⟨rfl, hb2⟩
                    have H2 := hid (H1.out.1.keep hb2)
                    clear hb2)
       go_ret
       exact ⟨by rw [HR.out]; rfl, H2.out.bel⟩
end
section
set_option maxRecDepth 100000
open Go.RowKit
set_option maxHeartbeats 3200000 in
theorem eqInts_dec (a1 a2 : Option Addr) (n1 n2 c1 c2 : Nat) (l1 l2 : List Int) (hn1 : l1.length = n1) (hn2 : l2.length = n2) (hm1 : n1 ≤ maxLen) (hm2 : n2 ≤ maxLen) (w : World) (h1 : IntsIn w a1 l1) (h2 : IntsIn w a2 l2) :
   Calls Tryz.prog 144 #[.slice a1 n1 c1, .slice a2 n2 c2] w fun e w' => e = .returned (.bool (decide (l1 = l2))) ∧ Below w.heap.size w w' := by
 by_cases hne : n1 = n2
 · subst hne
   have hm3 : (n1 : Int) ≤ 9223372036854775807 := by unfold maxLen at hm1; omega
   have HZ := hid (And.intro h1 (And.intro h2 (And.intro hn1 hn2)))
   clear h1 h2 hn1 hn2 hm1 hm2
   go_enter Tryz.func144, Tryz.ntmps144
   go_wp2
   go_loopw [13] (fun i wr => ∃ j : Nat, j ≤ n1 ∧ i = .int .i64 (j : Int) ∧ Below w.heap.size w wr ∧ l1.take j = l2.take j)
     (fun i _ => ((n1 : Int) - intOf i).toNat)
   case atStart => exact ⟨0, by omega, rfl, Below.refl _ _, rfl⟩
   case round =>
     obtain ⟨j, hj, rfl, hbel, htk⟩ := hrel
     have HB := hid (And.intro hbel htk)
     clear hbel htk
     by_cases hjn : j = n1
     · have hj1 : ¬ ((j : Int) < (n1 : Int)) := by omega
       have HE : Hid (l1 = l2) := hid (by
         have := HB.out.2
         rw [List.take_of_length_le (by have := HZ.out.2.2.1; omega), List.take_of_length_le (by have := HZ.out.2.2.2; omega)] at this
         exact this)
       clear hj hjn
       go_wp2
       go_ret
       exact ⟨(congrArg (fun b => Ending.returned (.bool b)) (decide_eq_true HE.out)).symm, HB.out.1⟩
     · have hj1 : (j : Int) < (n1 : Int) := by omega
       have hj0 : (0 : Int) ≤ (j : Int) := Int.natCast_nonneg _
       obtain ⟨s, es⟩ : ∃ s, l1[j]? = some s := ⟨_, List.getElem?_eq_getElem (by rw [HZ.out.2.2.1]; omega)⟩
       obtain ⟨t, et⟩ : ∃ t, l2[j]? = some t := ⟨_, List.getElem?_eq_getElem (by rw [HZ.out.2.2.2]; omega)⟩
       obtain ⟨g1, off1, rfl, hg1, hcell1⟩ := HZ.out.1.at j s es
       obtain ⟨g2, off2, rfl, hg2, hcell2⟩ := HZ.out.2.1.at j t et
       have cz1 : wr.cell? ⟨g1, off1 + j, none⟩ = some (.int .i64 s) := (HB.out.1.cell (p := ⟨g1, off1 + j, none⟩) hg1).trans hcell1
       have cz2 : wr.cell? ⟨g2, off2 + j, none⟩ = some (.int .i64 t) := (HB.out.1.cell (p := ⟨g2, off2 + j, none⟩) hg2).trans hcell2
       have HS := hid (And.intro es et)
       clear es et hg1 hg2 hcell1 hcell2
       by_cases hst : s = t
       · subst hst
         go_wp2
         go_quiet (fail)
         go_wp2
         go_roundw
         case rel => exact ⟨j + 1, by omega, rfl, ⟨HB.out.1.os, HB.out.1.tape, HB.out.1.output, HB.out.1.size, HB.out.1.block⟩, take_grow HB.out.2 HS.out.1 HS.out.2⟩
         case measure => simp [intOf]; omega
       · have hstb : (s != t) = true := by simpa using hst
         have HN : Hid (l1 ≠ l2) := hid (ne_of_at HS.out.1 HS.out.2 hst)
         go_wp2
         go_quiet (fail)
         go_wp2
         go_ret
         exact ⟨(congrArg (fun b => Ending.returned (.bool b)) (decide_eq_false HN.out)).symm, ⟨HB.out.1.os, HB.out.1.tape, HB.out.1.output, HB.out.1.size, HB.out.1.block⟩⟩
 · have hz : ¬ ((n1 : Int) = (n2 : Int)) := by omega
   have HN : Hid (l1 ≠ l2) := hid (fun e => hne (by rw [← hn1, ← hn2, e]))
   clear hne hn1 hn2 h1 h2 hm1 hm2
   go_enter Tryz.func144, Tryz.ntmps144
   go_wp2
   go_ret
   exact ⟨(congrArg (fun b => Ending.returned (.bool b)) (decide_eq_false HN.out)).symm, Below.refl _ _⟩
end
section
set_option maxRecDepth 100000
open Go.RowKit
set_option maxHeartbeats 3200000 in
theorem lisOther_any (B : Nat) (F : Nat → Prop) (g : Nat) (vl : Value) (fm : List Int) (ls : List Lk) (hl : ls.length ≤ 900) (hls : ∀ k, k ∈ ls → k.2.1.length ≤ 10) (G : Nat → Prop) (cv : Value) (cs : List Lk) (hcl : cs.length ≤ 64) (hgd : Good cs) (hrm : ∀ ad n c, cv = .slice ad n c → n ≤ c) (w : World) (h : TkAt B F w g vl fm ls) (hC : Reads G w cv (.l 3 (dLks cs))) :
   Calls Tryz.prog 96 #[.pointer (some ⟨g, 0, none⟩), cv] w fun r w' => r = .returned (.bool (otherTo ls cs cs.length)) ∧ Below w.heap.size w w' := by
 obtain ⟨ca, cc, hv⟩ := lks_form hC
 subst hv
 obtain ⟨r, cap, rfl, hc, hm, hr, hrg⟩ := h.form
 have HT := hid h
 have HEp := hid (lepochK_any B F g (.slice (some ⟨r, 0, none⟩) (ls.length + 1) cap) fm ls hl w h)
 have hcc := hrm _ _ _ rfl
 obtain ⟨m, em⟩ : ∃ m, m = min cs.length ls.length := ⟨_, rfl⟩
 have hm1 : m ≤ cs.length := by omega
 have hm2 : m ≤ ls.length := by omega
 have hmin : min (cs.length : Int) (ls.length : Int) = (m : Int) := by omega
 have hmc : (m : Int) ≤ (cs.length : Int) := by omega
 have hmcc : (m : Int) ≤ (cc : Int) := by omega
 have hm0 : (0 : Int) ≤ (m : Int) := Int.natCast_nonneg _
 have hm64 : (m : Int) ≤ 64 := by omega
 have hl2 : (ls.length : Int) ≤ 900 := by omega
 have hcl2 : (cs.length : Int) ≤ 64 := by omega
 have HC := hid (And.intro hC (And.intro hgd hls))
 have HM := hid (And.intro hm1 (And.intro hm2 em))
 clear hrm hcc h hC hgd hls hc hm hr hrg hl hcl em hm1 hm2
 go_enter Tryz.func96, Tryz.ntmps96
 go_wp2_with (go_at_call 61; refine HEp.out.mono ?_; rintro e w1 ⟨rfl, hb1⟩; have H1 := hid hb1; clear hb1)
 go_loopw [15] (fun i wr => ∃ j : Nat, j ≤ m ∧ i = .int .i64 (j : Int) ∧ Below w.heap.size w wr ∧ otherTo ls cs j = false)
   (fun i _ => ((m : Int) - intOf i).toNat)
 case atStart => exact ⟨0, by omega, rfl, H1.out, rfl⟩
 case round =>
   obtain ⟨j, hj, rfl, hbel, ho⟩ := hrel
   have HB := hid (And.intro hbel ho)
   clear hbel ho
   by_cases hjn : j = m
   · have hj1 : ¬ ((j : Int) < (m : Int)) := by omega
     have HE : Hid (otherTo ls cs cs.length = false) := hid (otherTo_all (by have := HM.out.2.2; omega) HB.out.2)
     clear hj hjn
     go_wp2
     go_ret
     exact ⟨by rw [HE.out]; rfl, HB.out.1⟩
   · have hj1 : (j : Int) < (m : Int) := by omega
     have hj0 : (0 : Int) ≤ (j : Int) := Int.natCast_nonneg _
     obtain ⟨k, hk⟩ : ∃ k, cs[j]? = some k := ⟨_, List.getElem?_eq_getElem (by have := HM.out.1; omega)⟩
     obtain ⟨q, hq⟩ : ∃ q, ls[j]? = some q := ⟨_, List.getElem?_eq_getElem (by have := HM.out.2.1; omega)⟩
     obtain ⟨g1, off, _, a1, c1, a2, c2, hv, hg, k0, k1, k2, hi1, hp1⟩ := lks_at HC.out.1 j k hk
     cases hv
     obtain ⟨g2, off2, _, b1, d1, b2, d2, hv, hg2, q0, q1, _, hi2, _⟩ := lks_at HT.out.reads (j + 1) q hq
     cases hv
     rw [Nat.zero_add] at q1
     have x0 := (HB.out.1.cell (p := ⟨g1, _, none⟩) hg).trans k0
     have x1 := (HB.out.1.cell (p := ⟨g1, _, none⟩) hg).trans k1
     have x2 := (HB.out.1.cell (p := ⟨g1, _, none⟩) hg).trans k2
     have hep : k.1 = ((j + 1 : Nat) : Int) := by have := (HC.out.2.1 j k hk).1; omega
     rw [hep] at x0
     obtain ⟨W, eW⟩ : ∃ W, W = wr.alloc (.cells #[.int .i64 ((j + 1 : Nat) : Int), .slice a1 k.2.1.length c1, .slice a2 k.2.2.length c2] 74) := ⟨_, rfl⟩
     have hA : Below wr.heap.size wr W := by rw [eW]; exact (Below.refl _ _).alloc (Nat.le_refl _) _
     have hWl : LnAt W wr.heap.size ((j + 1 : Nat) : Int) (.slice a1 k.2.1.length c1) (.slice a2 k.2.2.length c2) := by rw [eW]; exact heap_alloc_last wr _
     have hWb : Below w.heap.size w W := HB.out.1.trans (hA.mono HB.out.1.size)
     have HW : Hid (∀ u, Below W.heap.size W u → (u.cell? ⟨wr.heap.size, 0, none⟩ = some (.int .i64 ((j + 1 : Nat) : Int)) ∧ u.cell? ⟨wr.heap.size, 1, none⟩ = some (.slice a1 k.2.1.length c1)) ∧ u.cell? ⟨g, 0, none⟩ = some (.slice (some ⟨r, 0, none⟩) (ls.length + 1) cap) ∧ u.cell? ⟨r, (j + 1) * 3 + 1, none⟩ = some (.slice b1 q.2.1.length d1)) := hid (fun u hu => by
       have hb := hWb.trans (hu.mono hWb.size)
       exact ⟨⟨(hWl.keep hu).cells.1, (hWl.keep hu).cells.2.1⟩, (hb.cell (p := ⟨g, 0, none⟩) (lt_of_blk HT.out.blk)).trans (cell_one HT.out.blk), (hb.cell (p := ⟨r, _, none⟩) hg2).trans q1⟩)
     have HI : Hid (∀ u, Below W.heap.size W u → IntsIn u a1 k.2.1 ∧ IntsIn u b1 q.2.1) := hid (fun u hu => ⟨hi1.keep (hWb.trans (hu.mono hWb.size)) (Nat.le_refl _), hi2.keep (hWb.trans (hu.mono hWb.size)) (Nat.le_refl _)⟩)
     have HZ : Hid (k.2.1.length ≤ maxLen ∧ q.2.1.length ≤ maxLen) := hid ⟨by have := mem_len (right_mem (HC.out.2.1 j k hk).2.1).2; unfold maxLen; omega, by have := HC.out.2.2 q (List.mem_of_getElem? hq); unfold maxLen; omega⟩
     have HWb := hid hWb
     have HJ := hid (And.intro hj (And.intro hjn (And.intro hk hq)))
     have HStp := hid (otherTo_step hk hq)
     have hjl : ((j + 1 : Nat) : Int) < (ls.length : Int) + 1 := by have := HM.out.2.1; omega
     have hjz : (0 : Int) ≤ ((j + 1 : Nat) : Int) := by omega
     have HS : Hid (Below W.heap.size W W.drew) := hid (Below.refl _ _).drew
     clear hi1 hp1 hi2 k0 k1 k2 q0 q1 hj hjn hk hq hg hg2 hA hWl hWb
     generalize ej : j + 1 = j1 at *
     have HEj := hid ej
     clear ej
     by_cases hst : k.2.1 = q.2.1
     · have HEq : Hid (decide (k.2.1 = q.2.1) = true) := hid (decide_eq_true hst)
       clear hst
       go_wp2
       rw [← eW]
       clear eW x0 x1 x2
       refine wp_region_held (S := fun ww => Below W.heap.size W ww) (by kernel_rfl) ?_
       try (change wpAnyH _ _ _ _ _ _ _ _ (World.drew _))
       refine wpAnyH_take (i := 0) (v := ?v1) rfl (by kernel_rfl) (by kernel_rfl) (by kernel_rfl) (fun _ _ _ h => h) (Or.inl ⟨by rfl, ?hy1⟩) HS.out ?rest1
       case hy1 => (intro ww _; go_simp; try with_reducible rfl)
       go_simp
       refine wpAnyH_take (i := 1) (v := ?v2) rfl (by kernel_rfl) (by kernel_rfl) (by kernel_rfl) (fun _ _ _ h => h) (Or.inl ⟨by rfl, ?hy2⟩) HS.out ?rest2
       case hy2 => (intro ww _; go_simp; try with_reducible rfl)
       go_simp
       refine wpAnyH_take (i := 2) (v := ?v3) rfl (by kernel_rfl) (by kernel_rfl) (by kernel_rfl) (fun _ _ _ h => h) (Or.inl ⟨by rfl, ?hy3⟩) HS.out ?rest3
       case hy3 => (intro ww hS; obtain ⟨⟨y0, y1⟩, y2, y3⟩ := HW.out ww hS; go_simp; try with_reducible rfl)
       go_simp
       refine wpAnyH_take (i := 3) (v := ?v4) rfl (by kernel_rfl) (by kernel_rfl) (by kernel_rfl) (fun _ _ _ h => h) (Or.inl ⟨by rfl, ?hy4⟩) HS.out ?rest4
       case hy4 => (intro ww _; go_simp; try with_reducible rfl)
       go_simp
       refine wpAnyH_take (i := 4) (v := ?v5) rfl (by kernel_rfl) (by kernel_rfl) (by kernel_rfl) (fun _ _ _ h => h) (Or.inl ⟨by rfl, ?hy5⟩) HS.out ?rest5
       case hy5 => (intro ww _; go_simp; try with_reducible rfl)
       go_simp
       refine wpAnyH_take (i := 5) (v := ?v6) rfl (by kernel_rfl) (by kernel_rfl) (by kernel_rfl) (fun _ _ _ h => h) (Or.inl ⟨by rfl, ?hy6⟩) HS.out ?rest6
       case hy6 => (intro ww _; go_simp; try with_reducible rfl)
       go_simp
       refine wpAnyH_take (i := 6) (v := ?v7) rfl (by kernel_rfl) (by kernel_rfl) (by kernel_rfl) (fun _ _ _ h => h) (Or.inl ⟨by rfl, ?hy7⟩) HS.out ?rest7
       case hy7 => (intro ww hS; obtain ⟨⟨y0, y1⟩, y2, y3⟩ := HW.out ww hS; go_simp; try with_reducible rfl)
       go_simp
       refine wpAnyH_take (i := 7) (v := ?v8) rfl (by kernel_rfl) (by kernel_rfl) (by kernel_rfl) (fun _ _ _ h => h) (Or.inl ⟨by rfl, ?hy8⟩) HS.out ?rest8
       case hy8 => (intro ww _; go_simp; try with_reducible rfl)
       go_simp
       refine wpAnyH_take (i := 8) (v := ?v9) rfl (by kernel_rfl) (by kernel_rfl) (by kernel_rfl) (fun _ _ _ h => h) (Or.inl ⟨by rfl, ?hy9⟩) HS.out ?rest9
       case hy9 => (intro ww _; go_simp; try with_reducible rfl)
       go_simp
       refine wpAnyH_take (i := 9) (v := ?v10) rfl (by kernel_rfl) (by kernel_rfl) (by kernel_rfl) (fun _ _ _ h => h) (Or.inl ⟨by rfl, ?hy10⟩) HS.out ?rest10
       case hy10 => (intro ww hS; obtain ⟨⟨y0, y1⟩, y2, y3⟩ := HW.out ww hS; go_simp; try with_reducible rfl)
       go_simp
       refine wpAnyH_take (i := 10) (v := ?v11) rfl (by kernel_rfl) (by kernel_rfl) (by kernel_rfl) (fun _ _ _ h => h) (Or.inl ⟨by rfl, ?hy11⟩) HS.out ?rest11
       case hy11 => (intro ww _; go_simp; try with_reducible rfl)
       go_simp
       refine wpAnyH_take (i := 11) (v := ?v12) rfl (by kernel_rfl) (by kernel_rfl) (by kernel_rfl) (fun _ _ _ h => h) (Or.inl ⟨by rfl, ?hy12⟩) HS.out ?rest12
       case hy12 => (intro ww _; go_simp; try with_reducible rfl)
       go_simp
       refine wpAnyH_take (i := 12) (v := ?v13) rfl (by kernel_rfl) (by kernel_rfl) (by kernel_rfl) (fun _ _ _ h => h) (Or.inl ⟨by rfl, ?hy13⟩) HS.out ?rest13
       case hy13 => (intro ww _; go_simp; try with_reducible rfl)
       go_simp
       refine wpAnyH_take (i := 13) (v := ?v14) rfl (by kernel_rfl) (by kernel_rfl) (by kernel_rfl) (fun _ _ _ h => h) (Or.inl ⟨by rfl, ?hy14⟩) HS.out ?rest14
       case hy14 => (intro ww hS; obtain ⟨⟨y0, y1⟩, y2, y3⟩ := HW.out ww hS; go_simp; try with_reducible rfl)
       go_simp
       refine wpAnyH_all (rs := [14]) (by kernel_rfl) (by simp) ?_
       intro i hi
       obtain rfl := List.mem_singleton.1 hi
       clear hi
       refine wpOp_k rfl (by rfl) (fun K hK => ?_)
       go_simp
       have hcall := eqInts_dec a1 b1 _ _ c1 d1 k.2.1 q.2.1 rfl rfl HZ.out.1 HZ.out.2 _ (HI.out _ HS.out).1 (HI.out _ HS.out).2
       rw [HEq.out] at hcall
       refine hcall.mono ?_
       clear hcall
       rintro e w3 ⟨rfl, hb3⟩
       have H3 := hid (HS.out.trans (hb3.mono HS.out.size))
       clear hb3 HS
       have HS := hid H3.out
       refine hK _ _ ⟨HS.out, ?_⟩
       clear hK K
       go_simp
       refine wpAnyH_take (i := 15) (v := ?v15) rfl (by kernel_rfl) (by kernel_rfl) (by kernel_rfl) (fun _ _ _ h => h) (Or.inl ⟨by rfl, ?hy15⟩) HS.out ?rest15
       case hy15 => (intro ww _; go_simp; try with_reducible rfl)
       go_simp
       refine wpAnyH_done (by kernel_rfl) ?_ _
       go_simp
       go_wp2
       go_roundw
       case rel => exact ⟨j1, by have := HJ.out; have := HEj.out; omega, by rw [← HEj.out]; rfl, HWb.out.trans (HS.out.mono HWb.out.size), by rw [HStp.out, HB.out.2, HEq.out]; rfl⟩
       case measure => have := HJ.out; have := HEj.out; simp [intOf]; omega
     · have HEq : Hid (decide (k.2.1 = q.2.1) = false) := hid (decide_eq_false hst)
       clear hst
       go_wp2
       rw [← eW]
       clear eW x0 x1 x2
       refine wp_region_held (S := fun ww => Below W.heap.size W ww) (by kernel_rfl) ?_
       try (change wpAnyH _ _ _ _ _ _ _ _ (World.drew _))
       refine wpAnyH_take (i := 0) (v := ?v41) rfl (by kernel_rfl) (by kernel_rfl) (by kernel_rfl) (fun _ _ _ h => h) (Or.inl ⟨by rfl, ?hy41⟩) HS.out ?rest41
       case hy41 => (intro ww _; go_simp; try with_reducible rfl)
       go_simp
       refine wpAnyH_take (i := 1) (v := ?v42) rfl (by kernel_rfl) (by kernel_rfl) (by kernel_rfl) (fun _ _ _ h => h) (Or.inl ⟨by rfl, ?hy42⟩) HS.out ?rest42
       case hy42 => (intro ww _; go_simp; try with_reducible rfl)
       go_simp
       refine wpAnyH_take (i := 2) (v := ?v43) rfl (by kernel_rfl) (by kernel_rfl) (by kernel_rfl) (fun _ _ _ h => h) (Or.inl ⟨by rfl, ?hy43⟩) HS.out ?rest43
       case hy43 => (intro ww hS; obtain ⟨⟨y0, y1⟩, y2, y3⟩ := HW.out ww hS; go_simp; try with_reducible rfl)
       go_simp
       refine wpAnyH_take (i := 3) (v := ?v44) rfl (by kernel_rfl) (by kernel_rfl) (by kernel_rfl) (fun _ _ _ h => h) (Or.inl ⟨by rfl, ?hy44⟩) HS.out ?rest44
       case hy44 => (intro ww _; go_simp; try with_reducible rfl)
       go_simp
       refine wpAnyH_take (i := 4) (v := ?v45) rfl (by kernel_rfl) (by kernel_rfl) (by kernel_rfl) (fun _ _ _ h => h) (Or.inl ⟨by rfl, ?hy45⟩) HS.out ?rest45
       case hy45 => (intro ww _; go_simp; try with_reducible rfl)
       go_simp
       refine wpAnyH_take (i := 5) (v := ?v46) rfl (by kernel_rfl) (by kernel_rfl) (by kernel_rfl) (fun _ _ _ h => h) (Or.inl ⟨by rfl, ?hy46⟩) HS.out ?rest46
       case hy46 => (intro ww _; go_simp; try with_reducible rfl)
       go_simp
       refine wpAnyH_take (i := 6) (v := ?v47) rfl (by kernel_rfl) (by kernel_rfl) (by kernel_rfl) (fun _ _ _ h => h) (Or.inl ⟨by rfl, ?hy47⟩) HS.out ?rest47
       case hy47 => (intro ww hS; obtain ⟨⟨y0, y1⟩, y2, y3⟩ := HW.out ww hS; go_simp; try with_reducible rfl)
       go_simp
       refine wpAnyH_take (i := 7) (v := ?v48) rfl (by kernel_rfl) (by kernel_rfl) (by kernel_rfl) (fun _ _ _ h => h) (Or.inl ⟨by rfl, ?hy48⟩) HS.out ?rest48
       case hy48 => (intro ww _; go_simp; try with_reducible rfl)
       go_simp
       refine wpAnyH_take (i := 8) (v := ?v49) rfl (by kernel_rfl) (by kernel_rfl) (by kernel_rfl) (fun _ _ _ h => h) (Or.inl ⟨by rfl, ?hy49⟩) HS.out ?rest49
       case hy49 => (intro ww _; go_simp; try with_reducible rfl)
       go_simp
       refine wpAnyH_take (i := 9) (v := ?v50) rfl (by kernel_rfl) (by kernel_rfl) (by kernel_rfl) (fun _ _ _ h => h) (Or.inl ⟨by rfl, ?hy50⟩) HS.out ?rest50
       case hy50 => (intro ww hS; obtain ⟨⟨y0, y1⟩, y2, y3⟩ := HW.out ww hS; go_simp; try with_reducible rfl)
       go_simp
       refine wpAnyH_take (i := 10) (v := ?v51) rfl (by kernel_rfl) (by kernel_rfl) (by kernel_rfl) (fun _ _ _ h => h) (Or.inl ⟨by rfl, ?hy51⟩) HS.out ?rest51
       case hy51 => (intro ww _; go_simp; try with_reducible rfl)
       go_simp
       refine wpAnyH_take (i := 11) (v := ?v52) rfl (by kernel_rfl) (by kernel_rfl) (by kernel_rfl) (fun _ _ _ h => h) (Or.inl ⟨by rfl, ?hy52⟩) HS.out ?rest52
       case hy52 => (intro ww _; go_simp; try with_reducible rfl)
       go_simp
       refine wpAnyH_take (i := 12) (v := ?v53) rfl (by kernel_rfl) (by kernel_rfl) (by kernel_rfl) (fun _ _ _ h => h) (Or.inl ⟨by rfl, ?hy53⟩) HS.out ?rest53
       case hy53 => (intro ww _; go_simp; try with_reducible rfl)
       go_simp
       refine wpAnyH_take (i := 13) (v := ?v54) rfl (by kernel_rfl) (by kernel_rfl) (by kernel_rfl) (fun _ _ _ h => h) (Or.inl ⟨by rfl, ?hy54⟩) HS.out ?rest54
       case hy54 => (intro ww hS; obtain ⟨⟨y0, y1⟩, y2, y3⟩ := HW.out ww hS; go_simp; try with_reducible rfl)
       go_simp
       refine wpAnyH_all (rs := [14]) (by kernel_rfl) (by simp) ?_
       intro i hi
       obtain rfl := List.mem_singleton.1 hi
       clear hi
       refine wpOp_k rfl (by rfl) (fun K hK => ?_)
       go_simp
       have hcall := eqInts_dec a1 b1 _ _ c1 d1 k.2.1 q.2.1 rfl rfl HZ.out.1 HZ.out.2 _ (HI.out _ HS.out).1 (HI.out _ HS.out).2
       rw [HEq.out] at hcall
       refine hcall.mono ?_
       clear hcall
       rintro e w3 ⟨rfl, hb3⟩
       have H3 := hid (HS.out.trans (hb3.mono HS.out.size))
       clear hb3 HS
       have HS := hid H3.out
       refine hK _ _ ⟨HS.out, ?_⟩
       clear hK K
       go_simp
       refine wpAnyH_take (i := 15) (v := ?v55) rfl (by kernel_rfl) (by kernel_rfl) (by kernel_rfl) (fun _ _ _ h => h) (Or.inl ⟨by rfl, ?hy55⟩) HS.out ?rest55
       case hy55 => (intro ww _; go_simp; try with_reducible rfl)
       go_simp
       refine wpAnyH_done (by kernel_rfl) ?_ _
       go_simp
       go_wp2
       go_ret
       refine ⟨?_, HWb.out.trans (HS.out.mono HWb.out.size)⟩
       rw [otherTo_up (p := j1) (by have := HJ.out; have := HM.out; have := HEj.out; omega) (by rw [HStp.out, HB.out.2, HEq.out]; rfl)]
       rfl
end
section
open Go.RowKit
theorem TkAt.put {B : Nat} {F F' : Nat → Prop} {u w4 : World} {g : Nat} {vl v' : Value} {fm : List Int} {ls L : List Lk} (h : TkAt B F u g vl fm ls) (hO : OwnD 74 3 B F' w4 v' (dLks (kn fm L))) (hg : u.grownBy w4 vl.ownBlock) (hv : v'.ownBlock = vl.ownBlock ∨ v'.ownBlock = some u.heap.size) (hb : ¬ F' g) (hlt : ∀ j, F' j → j < u.heap.size) :
   TkAt B F' (w4.setCell ⟨g, 0, none⟩ v') g v' fm L ∧ Kept g vl.ownBlock u (w4.setCell ⟨g, 0, none⟩ v') := by
 have hbu := lt_of_blk h.blk
 have hbv : v'.ownBlock ≠ some g := by
   rcases hv with e | e
   · rw [e]; exact h.gv
   · rw [e]; intro e2; cases e2; exact absurd hbu (Nat.lt_irrefl _)
 have hs : (w4.setCell ⟨g, 0, none⟩ v').heap.size = w4.heap.size := by simp [World.setCell]
 have hB4 : w4.heap[g]? = some (.cells #[vl] 135 (0, 0)) := (hg.block g hbu (fun e => h.gv e.symm)).trans h.blk
 have hne : ∀ j, j ≠ g → (w4.setCell ⟨g, 0, none⟩ v').heap[j]? = w4.heap[j]? := fun j hj => Below.heap_setCell _ _ _ _ hj
 have hne' : ∀ j, F' j → j ≠ g := fun j hj e => hb (e ▸ hj)
 refine ⟨⟨(blk_set hB4 0 v').trans (by simp), hO.keep (Nat.le_of_eq hs.symm) (fun j _ hj => hne j (hne' j hj)) (fun q hq => hne q (fun e => hbv (e ▸ hq))), by rw [hs]; exact Nat.le_trans h.le hg.size, hb, hbv, fun j hj => ?_⟩, ?_⟩
 · rw [hs]; exact Nat.lt_of_lt_of_le (hlt j hj) hg.size
 · exact ⟨hg.os, hg.tape, hg.output, by rw [hs]; exact hg.size, fun j hj hjb hjr => (hne j hjb).trans (hg.block j hj hjr)⟩
end
end Go.Proofs.YtoepppkadpjonaaGreat
