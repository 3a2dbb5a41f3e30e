/- Texts laid together: CoV CoP TqE TsD CoQ TqF TrC. -/
import Derived.Test.YtpholamobedkhaaMg08
/- The program's council: which configurations are right. -/
namespace Go.Proofs.Ytpholamobedkhaa
open Go.RowKit

set_option maxRecDepth 100000 in
set_option maxHeartbeats 1600000 in
theorem cright_any (ep : Int) (a : Option Addr) (n cap : Nat) (l : List Int) (hn : l.length = n) (hm : n ≤ maxLen) (w : World) (hI : IntsIn w a l) :
    Calls Try.prog 28 #[.agg #[.int .i64 ep, .slice a n cap]] w fun e w' => e = .returned (.bool (rightC ep l)) ∧ Below w.heap.size w w' := by
  by_cases h0 : 0 ≤ ep
  · by_cases h60 : ep ≤ 60
    · have HM : Hid (∀ u : World, IntsIn u a l → Calls Try.prog 47 #[.slice a n cap] u fun e w' => e = .returned (.bool (memB l)) ∧ Below u.heap.size u w') := hid (fun u hu => careRight_any a n cap l hn hm u hu)
      have HR : Hid (rightC ep l = memB l) := hid (by rw [rightC, decide_eq_true (And.intro h0 h60)]; rfl)
      have HI := hid hI
      rw [HR.out]
      generalize memB l = b at HM
      clear hI hn hm
      go_enter Try.func28, Try.ntmps28
      go_wp2_with (go_at_call 47; refine (HM.out _ (by exact HI.out.alloc _)).mono ?_; rintro e w1 ⟨rfl, hb1⟩; have H1 := hid (((Below.refl w.heap.size w).alloc (Nat.le_refl _) _).trans (hb1.mono (by simp))); clear hb1)
      go_ret
      exact ⟨rfl, H1.out⟩
    · have HR : Hid (rightC ep l = false) := hid (by rw [rightC, decide_eq_false (fun h => h60 h.2)]; rfl)
      rw [HR.out]
      clear hI hn hm
      go_enter Try.func28, Try.ntmps28
      go_wp2
      go_ret
      exact ⟨rfl, (Below.refl _ _).alloc (Nat.le_refl _) _⟩
  · have HR : Hid (rightC ep l = false) := hid (by rw [rightC, decide_eq_false (fun h => h0 h.1)]; rfl)
    rw [HR.out]
    clear hI hn hm
    go_enter Try.func28, Try.ntmps28
    go_wp2
    go_ret
    exact ⟨rfl, (Below.refl _ _).alloc (Nat.le_refl _) _⟩
end Go.Proofs.Ytpholamobedkhaa

/- The program's council: what each call answers. -/
namespace Go.Proofs.Ytpholamobedkhaa
open Go.RowKit

theorem chas_any (ep : Int) (a : Option Addr) (n cap : Nat) (l : List Int) (hn : l.length = n) (hm : n ≤ maxLen) (id : Int) (w : World) (hI : IntsIn w a l) :
    Calls Try.prog 53 #[.agg #[.int .i64 ep, .slice a n cap], .int .i64 id] w fun e w' => e = .returned (.bool (hasM l id)) ∧ Below w.heap.size w w' := by
  have HC := hid (fun u (hu : IntsIn u a l) => contains_any a n cap l hn hm id u hu)
  have HI := hid hI
  clear hI hn hm
  go_enter Try.func53, Try.ntmps53
  go_wp2_with (go_at_call 65; refine (HC.out _ (by first | exact HI.out.alloc _ | exact HI.out)).mono ?_; rintro e w1 ⟨rfl, rfl⟩)
  go_ret
  exact ⟨rfl, by first | exact Below.refl _ _ | exact ((Below.refl w.heap.size w).alloc (Nat.le_refl _) _)⟩
end Go.Proofs.Ytpholamobedkhaa

/- The program's tracker: At, New. -/
namespace Go.Proofs.Ytpholamobedkhaa
open Go.RowKit

/-- The configuration that a tracker holds of an epoch. -/
theorem kn_at (fm : List Int) (ls : List Lk) (j : Nat) (hj : j ≤ ls.length) : ∃ k, (kn fm ls)[j]? = some k ∧ k.1 = atZ 0 ls (j : Int) ∧ k.2.1 = atM fm ls (j : Int) := by
  cases j with
  | zero => exact ⟨(0, fm, []), rfl, by simp [atZ], by simp [atM]⟩
  | succ j =>
    have hj2 : j < ls.length := by omega
    have h0 : ¬ (((j + 1 : Nat) : Int) = 0) := by omega
    have h1 : 1 ≤ ((j + 1 : Nat) : Int) ∧ ((j + 1 : Nat) : Int) ≤ ls.length := by omega
    refine ⟨ls[j], ?_, ?_, ?_⟩
    · show ls[j]? = _
      exact List.getElem?_eq_getElem hj2
    · rw [atZ, if_neg h0, if_pos h1, show (((j + 1 : Nat) : Int) - 1).toNat = j by omega, List.getD_eq_getElem?_getD, List.getElem?_eq_getElem hj2]; rfl
    · rw [atM, if_neg h0, if_pos h1, show (((j + 1 : Nat) : Int) - 1).toNat = j by omega, List.getD_eq_getElem?_getD, List.getElem?_eq_getElem hj2]; rfl
theorem atM_len (fm : List Int) (ls : List Lk) (hfm : fm.length ≤ 10) (hls : ∀ k, k ∈ ls → k.2.1.length ≤ 10) (e : Int) : (atM fm ls e).length ≤ 10 := by
  unfold atM
  split
  · exact hfm
  · split
    · next h =>
      have hj : (e - 1).toNat < ls.length := by omega
      rw [List.getD_eq_getElem?_getD, List.getElem?_eq_getElem hj]
      exact hls _ (List.getElem_mem hj)
    · exact Nat.zero_le _
theorem store_two {w : World} {b : Nat} {p q x0 x1 : Value} {T : TypeId} (h : w.heap[b]? = some (.cells #[p, q] T (0, 0))) : ((w.setCell ⟨b, 0, none⟩ x0).setCell ⟨b, 1, none⟩ x1).cell? ⟨b, 0, none⟩ = some x0 ∧ ((w.setCell ⟨b, 0, none⟩ x0).setCell ⟨b, 1, none⟩ x1).cell? ⟨b, 1, none⟩ = some x1 := cell_two (res_put2 h)
set_option maxRecDepth 100000 in
set_option maxHeartbeats 1600000 in
theorem latK_any (B : Nat) (F : Nat → Prop) (g : Nat) (vl : Value) (fm : List Int) (hfm : fm.length ≤ 10) (ls : List Lk) (hl : ls.length ≤ 900) (hls : ∀ k, k ∈ ls → k.2.1.length ≤ 10) (e : Int) (w : World) (h : TkAt B F w g vl fm ls) :
    Calls Try.prog 24 #[.pointer (some ⟨g, 0, none⟩), .int .i64 e] w fun r w' => ∃ ad cap, r = .returned (.tuple #[.agg #[.int .i64 (atZ 0 ls e), .slice ad (atM fm ls e).length cap], .bool (atB ls e)]) ∧ NewI w.heap.size w' ad (atM fm ls e) ∧ Below w.heap.size w w' := by
  obtain ⟨r, cap, rfl, hc, hm, hr, hrg⟩ := h.form
  have hA := (Below.refl w.heap.size w).alloc (Nat.le_refl _) (.cells #[.int .i64 0, .slice none 0 0] 24)
  have H0 : Hid (TkAt B F (w.alloc (.cells #[.int .i64 0, .slice none 0 0] 24)) g (.slice (some ⟨r, 0, none⟩) (ls.length + 1) cap) fm ls ∧ (w.alloc (.cells #[.int .i64 0, .slice none 0 0] 24)).heap[w.heap.size]? = some (.cells #[.int .i64 0, .slice none 0 0] 24 (0, 0)) ∧ Below w.heap.size w (w.alloc (.cells #[.int .i64 0, .slice none 0 0] 24))) := hid ⟨h.keep hA, heap_alloc_last w _, hA⟩
  have HK := hid (fun u => lknows_any B F g (.slice (some ⟨r, 0, none⟩) (ls.length + 1) cap) fm ls u)
  have HEp := hid (fun u => lepochK_any B F g (.slice (some ⟨r, 0, none⟩) (ls.length + 1) cap) fm ls hl u)
  have hn2 : (ls.length : Int) ≤ 900 := by omega
  have HZ := hid (atM_len fm ls hfm hls e)
  clear h hc hm hr hrg hl hls hA
  by_cases he : 0 ≤ e ∧ e ≤ (ls.length : Int)
  · obtain ⟨he0, he1⟩ := he
    obtain ⟨j, rfl⟩ : ∃ j : Nat, e = (j : Int) := ⟨e.toNat, by omega⟩
    obtain ⟨k, hk, ek1, ek2⟩ := kn_at fm ls j (by omega)
    rw [show atB ls (j : Int) = true by rw [atB, decide_eq_true ⟨he0, he1⟩]]
    rw [← ek1, ← ek2]
    rw [← ek2] at HZ
    have hlt : ¬ ((j : Int) < 0) := by omega
    have hgt : ¬ ((ls.length : Int) < (j : Int)) := by omega
    have hj1 : (j : Int) < ((ls.length + 1 : Nat) : Int) := by omega
    have HAt : Hid (∀ u, TkAt B F u g (.slice (some ⟨r, 0, none⟩) (ls.length + 1) cap) fm ls → ∃ a1 c1, u.cell? ⟨r, j * 3, none⟩ = some (.int .i64 k.1) ∧ u.cell? ⟨r, j * 3 + 1, none⟩ = some (.slice a1 k.2.1.length c1) ∧ IntsIn u a1 k.2.1) := hid (fun u hu => by
      obtain ⟨g', off', cap', a1, c1, a2, c2, hv, hg, k0, k1, k2, hi1, hp1⟩ := lks_at hu.reads j k hk
      cases hv
      rw [Nat.zero_add] at k0 k1
      exact ⟨a1, c1, k0, k1, hi1⟩)
    clear ek1 ek2 hk he1
    go_enter Try.func24, Try.ntmps24
    go_wp2_with (first
      | (go_at_call 37; refine (HK.out _ (by exact H0.out.1)).mono ?_; rintro e w1 ⟨rfl, hb1⟩; have H1 := hid (And.intro (H0.out.1.keep hb1) (And.intro ((hb1.block _ (lt_of_blk H0.out.2.1)).trans H0.out.2.1) (H0.out.2.2.trans (hb1.mono H0.out.2.2.size)))); clear hb1)
      | (go_at_call 18; refine (HEp.out _ (by exact H1.out.1)).mono ?_; rintro e w2 ⟨rfl, hb2⟩; have H2 := hid (And.intro (H1.out.1.keep hb2) (And.intro ((hb2.block _ (lt_of_blk H1.out.2.1)).trans H1.out.2.1) (H1.out.2.2.trans (hb2.mono H1.out.2.2.size)))); clear hb2; have t0 := cell_one H2.out.1.blk; obtain ⟨a1, c1, x0, x1, hi1⟩ := HAt.out _ H2.out.1; have HI := hid hi1; clear hi1)
      | (go_at_call 33; refine (lcopyConf_any _ _ _ _ k.2.1 rfl (by have := HZ.out; omega) _ (by exact HI.out)).mono ?_; rintro e w3 ⟨a3, c3, rfl, hN3, hb3⟩; have H3 := hid (And.intro ((hb3.block _ (lt_of_blk H2.out.2.1)).trans H2.out.2.1) (And.intro (H2.out.2.2.trans (hb3.mono H2.out.2.2.size)) hN3)); clear hN3 hb3; have r0 := (cell_two H3.out.1).1; have r1 := (cell_two H3.out.1).2; have f0 := free_at H3.out.1 0; have f1 := free_at H3.out.1 1))
    refine ret_pair (s := 4) (s2 := 5) (ad := ⟨w.heap.size, 0, none⟩) rfl rfl (load_conf _ _ (.int .i64 k.1) (.slice a3 k.2.1.length c3) (store_two H3.out.1).1 (store_two H3.out.1).2) rfl rfl ?_
    have hlt2 := lt_of_blk H2.out.2.1
    have hN : NewI w.heap.size ((w3.setCell ⟨w.heap.size, 0, none⟩ (.int .i64 k.1)).setCell ⟨w.heap.size, 1, none⟩ (.slice a3 k.2.1.length c3)) a3 k.2.1 := (H3.out.2.2.low (by omega)).far_keep (by simp [World.setCell]) (fun x hx => by
      have h1 := (H3.out.2.2.far x hx).1
      refine (Below.heap_setCell _ _ _ _ ?_).trans (Below.heap_setCell _ _ _ _ ?_) <;> (show x.block ≠ w.heap.size; omega))
    have hB := (H3.out.2.1.setCell (p := ⟨w.heap.size, 0, none⟩) (Nat.le_refl _) (.int .i64 k.1)).setCell (p := ⟨w.heap.size, 1, none⟩) (Nat.le_refl _) (.slice a3 k.2.1.length c3)
    first | exact ⟨a3, c3, rfl, hN, hB⟩ | exact ⟨a3, ⟨c3, rfl⟩, hN, hB⟩
  · rw [show atZ 0 ls e = 0 by rw [atZ, if_neg (by omega), if_neg (by omega)], show atM fm ls e = [] by rw [atM, if_neg (by omega), if_neg (by omega)], show atB ls e = false by rw [atB, decide_eq_false he]]
    clear HZ
    have hN : ∀ u : World, NewI w.heap.size u none [] := fun u => ⟨.inl rfl, fun x hx => by cases hx⟩
    by_cases h0 : e < 0
    · clear he
      go_enter Try.func24, Try.ntmps24
      go_wp2_with (first
        | (go_at_call 37; refine (HK.out _ (by exact H0.out.1)).mono ?_; rintro e w1 ⟨rfl, hb1⟩; have H1 := hid (And.intro (H0.out.1.keep hb1) (And.intro ((hb1.block _ (lt_of_blk H0.out.2.1)).trans H0.out.2.1) (H0.out.2.2.trans (hb1.mono H0.out.2.2.size)))); clear hb1; have r0 := (cell_two H1.out.2.1).1; have r1 := (cell_two H1.out.2.1).2; have f0 := free_at H1.out.2.1 0; have f1 := free_at H1.out.2.1 1))
      refine ret_pair (s := 4) (s2 := 5) (ad := ⟨w.heap.size, 0, none⟩) rfl rfl (load_conf _ _ (.int .i64 0) (.slice none 0 0) (store_two H1.out.2.1).1 (store_two H1.out.2.1).2) rfl rfl ?_
      have hB := (H1.out.2.2.setCell (p := ⟨w.heap.size, 0, none⟩) (Nat.le_refl _) (.int .i64 0)).setCell (p := ⟨w.heap.size, 1, none⟩) (Nat.le_refl _) (.slice none 0 0)
      first | exact ⟨none, 0, rfl, hN _, hB⟩ | exact ⟨none, ⟨0, rfl⟩, hN _, hB⟩
    · have hgt : (ls.length : Int) < e := by omega
      clear he
      go_enter Try.func24, Try.ntmps24
      go_wp2_with (first
        | (go_at_call 37; refine (HK.out _ (by exact H0.out.1)).mono ?_; rintro e w1 ⟨rfl, hb1⟩; have H1 := hid (And.intro (H0.out.1.keep hb1) (And.intro ((hb1.block _ (lt_of_blk H0.out.2.1)).trans H0.out.2.1) (H0.out.2.2.trans (hb1.mono H0.out.2.2.size)))); clear hb1)
        | (go_at_call 18; refine (HEp.out _ (by exact H1.out.1)).mono ?_; rintro e w2 ⟨rfl, hb2⟩; have H2 := hid (And.intro (H1.out.1.keep hb2) (And.intro ((hb2.block _ (lt_of_blk H1.out.2.1)).trans H1.out.2.1) (H1.out.2.2.trans (hb2.mono H1.out.2.2.size)))); clear hb2; have r0 := (cell_two H2.out.2.1).1; have r1 := (cell_two H2.out.2.1).2; have f0 := free_at H2.out.2.1 0; have f1 := free_at H2.out.2.1 1))
      refine ret_pair (s := 4) (s2 := 5) (ad := ⟨w.heap.size, 0, none⟩) rfl rfl (load_conf _ _ (.int .i64 0) (.slice none 0 0) (store_two H2.out.2.1).1 (store_two H2.out.2.1).2) rfl rfl ?_
      have hB := (H2.out.2.2.setCell (p := ⟨w.heap.size, 0, none⟩) (Nat.le_refl _) (.int .i64 0)).setCell (p := ⟨w.heap.size, 1, none⟩) (Nat.le_refl _) (.slice none 0 0)
      first | exact ⟨none, 0, rfl, hN _, hB⟩ | exact ⟨none, ⟨0, rfl⟩, hN _, hB⟩
theorem lat_any (O : Nat → Prop) (v : Value) (fm : List Int) (hfm : fm.length ≤ 10) (ls : List Lk) (hl : ls.length ≤ 900) (hls : ∀ k, k ∈ ls → k.2.1.length ≤ 10) (e : Int) (w : World) (h : TrAt O w v fm ls) :
    Calls Try.prog 24 #[v, .int .i64 e] w fun r w' => ∃ ad cap, r = .returned (.tuple #[.agg #[.int .i64 (atZ 0 ls e), .slice ad (atM fm ls e).length cap], .bool (atB ls e)]) ∧ NewI w.heap.size w' ad (atM fm ls e) ∧ Below w.heap.size w w' := by
  obtain ⟨g, B, F, vl, rfl, hM, _⟩ := h
  exact latK_any B F g vl fm hfm ls hl hls e w hM
end Go.Proofs.Ytpholamobedkhaa

/- The program's Proves. -/
namespace Go.Proofs.Ytpholamobedkhaa
open Go.RowKit

set_option maxRecDepth 100000 in
set_option maxHeartbeats 3200000 in
theorem tproves_any (ep : Int) (a : Option Addr) (n cap : Nat) (l : List Int) (hn : l.length = n) (hm : n ≤ maxLen) (t : ByteArray) (b : Option Addr) (m cp : Nat) (ss : List (Int × ByteArray)) (hsn : ss.length = m) (hsm : m ≤ maxLen) (w : World) (hI : IntsIn w a l) (hP : PairsIn w b ss) :
    Calls Try.prog 30 #[.agg #[.int .i64 ep, .slice a n cap], .string t, .slice b m cp] w fun e w' => e = .returned (.bool (provesB ep l t ss)) ∧ Below w.heap.size w w' := by
  have hm2 : (m : Int) ≤ 9223372036854775807 := by unfold maxLen at hsm; omega
  have HH : Hid (∀ (z : Int) (u : World), IntsIn u a l → Calls Try.prog 53 #[.agg #[.int .i64 ep, .slice a n cap], .int .i64 z] u fun e w' => e = .returned (.bool (hasM l z)) ∧ Below u.heap.size u w') := hid (fun z u hu => chas_any ep a n cap l hn hm z u hu)
  have HR : Hid (∀ u : World, IntsIn u a l → Calls Try.prog 28 #[.agg #[.int .i64 ep, .slice a n cap]] u fun e w' => e = .returned (.bool (rightC ep l)) ∧ Below u.heap.size u w') := hid (fun u hu => cright_any ep a n cap l hn hm u hu)
  obtain ⟨qz, eqz⟩ : ∃ q, q = quoZ (n : Int) := ⟨_, rfl⟩
  have HQx : Hid (∀ u : World, Calls Try.prog 52 #[.int .i64 (n : Int)] u fun e w' => e = .returned (.int .i64 qz) ∧ Below u.heap.size u w') := hid (fun u => by rw [eqz]; exact cquorum_any (n : Int) (by unfold maxLen at hm; omega) u)
  obtain ⟨W, eW⟩ : ∃ W, W = w.alloc (.cells #[.int .i64 ep, .slice a n cap] 24) := ⟨_, rfl⟩
  have hbW : Below w.heap.size w W := by rw [eW]; exact (Below.refl _ _).alloc (Nat.le_refl _) _
  have hcf : W.heap[w.heap.size]? = some (.cells [.int .i64 ep, .slice a n cap].toArray 24 (0, 0)) := by rw [eW]; exact heap_alloc_last w _
  have c0 : W.cell? ⟨w.heap.size, 0, none⟩ = some (.int .i64 ep) := cell_at hcf 0 _ rfl
  have c1 : W.cell? ⟨w.heap.size, 1, none⟩ = some (.slice a n cap) := cell_at hcf 1 _ rfl
  have HE := hid eW
  have HW := hid hbW
  have HCf := hid hcf
  have HI := hid (hI.keep hbW (Nat.le_refl _))
  have HP := hid (And.intro (hP.keep hbW (Nat.le_refl _)) hsn)
  have hd : provesB ep l t ss = (okTTo l t ss m && (rightC ep l && (decide (qz ≤ (m : Int)) && decide (m ≤ 16)))) := by rw [provesB, hsn, hn, eqz]
  clear hI hP hsn hsm hn hm eW hbW hcf eqz
  cases hrt : rightC ep l with
  | false =>
    have HRx : Hid (∀ u : World, IntsIn u a l → Calls Try.prog 28 #[.agg #[.int .i64 ep, .slice a n cap]] u fun e w' => e = .returned (.bool false) ∧ Below u.heap.size u w') := hid (fun u hu => by rw [← hrt]; exact HR.out u hu)
    have HD : Hid (provesB ep l t ss = false) := hid (by rw [hd, hrt]; simp)
    clear hrt hd
    go_enter Try.func30, Try.ntmps30
    go_wp2_with (go_at_call 28; have hx := HE.out; rw [← hx]; clear hx; refine (HRx.out _ HI.out).mono ?_; rintro e w2 ⟨rfl, hb2⟩; have H2 := hid hb2; have c2 : w2.cell? ⟨w.heap.size, 1, none⟩ = some (.slice a n cap) := cell_at ((hb2.block _ (lt_of_blk HCf.out)).trans HCf.out) 1 _ rfl; clear hb2 c0 c1)
    go_ret
    exact ⟨by rw [HD.out]; rfl, HW.out.trans (H2.out.mono HW.out.size)⟩
  | true =>
    have HRx : Hid (∀ u : World, IntsIn u a l → Calls Try.prog 28 #[.agg #[.int .i64 ep, .slice a n cap]] u fun e w' => e = .returned (.bool true) ∧ Below u.heap.size u w') := hid (fun u hu => by rw [← hrt]; exact HR.out u hu)
    by_cases h1 : (m : Int) < qz
    · have HD : Hid (provesB ep l t ss = false) := hid (by rw [hd, decide_eq_false (show ¬ (qz ≤ (m : Int)) by omega)]; simp)
      clear hrt hd
      go_enter Try.func30, Try.ntmps30
      go_wp2_with (first
        | (go_at_call 28; have hx := HE.out; rw [← hx]; clear hx; refine (HRx.out _ HI.out).mono ?_; rintro e w2 ⟨rfl, hb2⟩; have H2 := hid hb2; have c2 : w2.cell? ⟨w.heap.size, 1, none⟩ = some (.slice a n cap) := cell_at ((hb2.block _ (lt_of_blk HCf.out)).trans HCf.out) 1 _ rfl; clear hb2 c0 c1)
        | (go_at_call 52; have := H2; refine (HQx.out _).mono ?_; rintro e w3 ⟨rfl, hb3⟩; have H3 := hid (H2.out.trans (hb3.mono H2.out.size)); clear hb3 c2))
      go_ret
      exact ⟨by rw [HD.out]; rfl, HW.out.trans (H3.out.mono HW.out.size)⟩
    · by_cases h2 : m ≤ 16
      · have HD : Hid (provesB ep l t ss = okTTo l t ss m) := hid (by rw [hd, hrt, decide_eq_true (show qz ≤ (m : Int) by omega), decide_eq_true h2]; simp)
        have h3 : ¬ ((16 : Int) < (m : Int)) := by omega
        have h4 : decide ((16 : Int) < (m : Int)) = false := decide_eq_false h3
        have h5 : ¬ (16 < m) := by omega
        clear hrt hd h2
        go_enter Try.func30, Try.ntmps30
        go_wp2_with (first
          | (go_at_call 28; have hx := HE.out; rw [← hx]; clear hx; refine (HRx.out _ HI.out).mono ?_; rintro e w2 ⟨rfl, hb2⟩; have H2 := hid hb2; have c2 : w2.cell? ⟨w.heap.size, 1, none⟩ = some (.slice a n cap) := cell_at ((hb2.block _ (lt_of_blk HCf.out)).trans HCf.out) 1 _ rfl; clear hb2 c0 c1)
          | (go_at_call 52; have := H2; refine (HQx.out _).mono ?_; rintro e w3 ⟨rfl, hb3⟩; have H3 := hid (H2.out.trans (hb3.mono H2.out.size)); clear hb3 c2))
        clear h1 h3 h4 h5
        go_loopw [28] (fun i wr => ∃ j : Nat, j ≤ m ∧ i = .int .i64 (j : Int) ∧ okTTo l t ss j = true ∧ Below W.heap.size W wr)
          (fun i _ => ((m : Int) - intOf i).toNat)
        case atStart => exact ⟨0, by omega, rfl, rfl, H3.out⟩
        case round =>
          obtain ⟨j, hj, rfl, hok, hbel⟩ := hrel
          have HB := hid hbel
          clear hbel H2 H3 HRx HQx HR
          by_cases hjn : j = m
          · have hj1 : ¬ ((j : Int) < (m : Int)) := by omega
            rw [hjn] at hok
            have HF := hid hok
            clear hok hj hjn
            go_wp2
            go_ret
            exact ⟨by rw [HD.out, HF.out]; rfl, HW.out.trans (HB.out.mono HW.out.size)⟩
          · have hj1 : (j : Int) < (m : Int) := by omega
            have hj0 : (0 : Int) ≤ (j : Int) := Int.natCast_nonneg _
            have hjl : j < ss.length := by rw [HP.out.2]; omega
            obtain ⟨g, off, rfl, hg, x1, y1⟩ := HP.out.1.at j _ (getP_some hjl)
            obtain ⟨x, ex⟩ : ∃ x, x = idOf ss j := ⟨_, rfl⟩
            obtain ⟨r, er⟩ : ∃ r, r = rtOf ss j := ⟨_, rfl⟩
            rw [← ex] at x1
            rw [← er] at y1
            have z0 : wr.cell? ⟨g, off + j * 2, none⟩ = some (.int .i64 x) := (HB.out.cell (p := ⟨g, _, none⟩) hg).trans x1
            have z1 : wr.cell? ⟨g, off + j * 2 + 1, none⟩ = some (.string r) := (HB.out.cell (p := ⟨g, _, none⟩) hg).trans y1
            have hbA : ∀ u : World, Below (wr.alloc (.cells #[.int .i64 x, .string r] 62)).heap.size (wr.alloc (.cells #[.int .i64 x, .string r] 62)) u → Below wr.heap.size wr u := fun u hu => ((Below.refl _ _).alloc (Nat.le_refl _) _).trans (hu.mono (by simp))
            have HBd : Hid (∀ c : Cls (wr.alloc (.cells #[.int .i64 x, .string r] 62)), Below W.heap.size W c.1) := hid (fun c => HB.out.trans ((hbA _ c.2).mono HB.out.size))
            have HBc : Hid (∀ c : Cls (wr.alloc (.cells #[.int .i64 x, .string r] 62)), Below w.heap.size w c.1) := hid (fun c => HW.out.trans ((HBd.out c).mono HW.out.size))
            have HIb : Hid (∀ u : World, Below (wr.alloc (.cells #[.int .i64 x, .string r] 62)).heap.size (wr.alloc (.cells #[.int .i64 x, .string r] 62)) u → IntsIn u a l) := hid (fun u hu => HI.out.keep (HBd.out ⟨u, hu⟩) (Nat.le_refl _))
            have hsb : ∀ c : Cls (wr.alloc (.cells #[.int .i64 x, .string r] 62)), c.1.heap[wr.heap.size]? = some (.cells [.int .i64 x, .string r].toArray 62 (0, 0)) := fun c => (c.2.block _ (by simp)).trans (heap_alloc_last wr _)
            have e0 : ∀ c : Cls (wr.alloc (.cells #[.int .i64 x, .string r] 62)), c.1.cell? ⟨wr.heap.size, 0, none⟩ = some (.int .i64 x) := fun c => cell_at (hsb c) 0 _ rfl
            have e1 : ∀ c : Cls (wr.alloc (.cells #[.int .i64 x, .string r] 62)), c.1.cell? ⟨wr.heap.size, 1, none⟩ = some (.string r) := fun c => cell_at (hsb c) 1 _ rfl
            have e2 : ∀ c : Cls (wr.alloc (.cells #[.int .i64 x, .string r] 62)), c.1.cell? ⟨w.heap.size, 1, none⟩ = some (.slice a n cap) := fun c => cell_at (((HBd.out c).block _ (lt_of_blk HCf.out)).trans HCf.out) 1 _ rfl
            have e4 : ∀ c : Cls (wr.alloc (.cells #[.int .i64 x, .string r] 62)), c.1.cell? ⟨w.heap.size, 0, none⟩ = some (.int .i64 ep) := fun c => cell_at (((HBd.out c).block _ (lt_of_blk HCf.out)).trans HCf.out) 0 _ rfl
            have HJ := hid (And.intro hj hjn)
            clear x1 y1 hsb hbA
            by_cases hr : r.data.toList = t.data.toList
            · obtain rfl : r = t := bytes_eq hr
              cases hh : hasM l x with
              | false =>
                have HHx : Hid (∀ u : World, IntsIn u a l → Calls Try.prog 53 #[.agg #[.int .i64 ep, .slice a n cap], .int .i64 x] u fun e w' => e = .returned (.bool false) ∧ Below u.heap.size u w') := hid (fun u hu => by rw [← hh]; exact HH.out x u hu)
                have HFl : Hid (okTTo l r ss m = false) := hid (okTTo_false l r ss (j + 1) m (by rw [okTTo_succ, okT, ← ex, hh]; simp) (by omega))
                clear hok hj hjn hjl ex er hh hr hg
                go_wp2
                haveI := Cls.ne (wr.alloc (.cells #[.int .i64 x, .string r] 62))
                refine wp_region_cls (wr.alloc (.cells #[.int .i64 x, .string r] 62)) (by kernel_rfl) (by kernel_rfl) ?_
                repeat (go_big_quiet_step ((go_at_call 53; exact Cls.of _ (fun u hu => HHx.out u (HIb.out u hu)))))
                refine wpQuiet_nil ?_
                rintro _ ⟨c, rfl⟩
                go_wp2
                go_ret
                exact ⟨by rw [HD.out, HFl.out]; rfl, HBc.out c⟩
              | true =>
                have HHx : Hid (∀ u : World, IntsIn u a l → Calls Try.prog 53 #[.agg #[.int .i64 ep, .slice a n cap], .int .i64 x] u fun e w' => e = .returned (.bool true) ∧ Below u.heap.size u w') := hid (fun u hu => by rw [← hh]; exact HH.out x u hu)
                by_cases hz : j = 0
                · have hz1 : ¬ ((0 : Int) < (j : Int)) := by omega
                  have hz2 : decide (0 < j) = false := decide_eq_false (by omega)
                  have HFl : Hid (okTTo l r ss (j + 1) = true) := hid (by rw [okTTo_succ, hok, okT, ← ex, ← er, hh, decide_eq_true hz]; simp)
                  clear hok hj hjn hjl ex er hh hr hg hz
                  go_wp2
                  haveI := Cls.ne (wr.alloc (.cells #[.int .i64 x, .string r] 62))
                  refine wp_region_cls (wr.alloc (.cells #[.int .i64 x, .string r] 62)) (by kernel_rfl) (by kernel_rfl) ?_
                  repeat (go_big_quiet_step ((go_at_call 53; exact Cls.of _ (fun u hu => HHx.out u (HIb.out u hu)))))
                  refine wpQuiet_nil ?_
                  rintro _ ⟨c, rfl⟩
                  go_wp2
                  go_roundw
                  case rel => exact ⟨j + 1, by have := HJ.out; omega, by go_num, HFl.out, HBd.out c⟩
                  case measure => simp [intOf]; omega
                · obtain ⟨i, rfl⟩ : ∃ i, j = i + 1 := ⟨j - 1, by omega⟩
                  have hil : i < ss.length := by omega
                  obtain ⟨g', off', eg, hg', p1, _⟩ := HP.out.1.at i _ (getP_some hil)
                  obtain ⟨rfl, rfl⟩ : g = g' ∧ off = off' := by simp at eg; exact eg
                  obtain ⟨y, ey⟩ : ∃ y, y = idOf ss i := ⟨_, rfl⟩
                  rw [← ey] at p1
                  have e3 : ∀ c : Cls (wr.alloc (.cells #[.int .i64 x, .string r] 62)), c.1.cell? ⟨g, off + i * 2, none⟩ = some (.int .i64 y) := fun c => ((HBd.out c).cell (p := ⟨g, _, none⟩) hg).trans p1
                  have hi0 : (0 : Int) < ((i + 1 : Nat) : Int) := by omega
                  have hi1 : (i : Int) < (m : Int) := by omega
                  have hi2 : (0 : Int) ≤ (i : Int) := by omega
                  have hi3 : decide ((0 : Int) < (i : Int) + 1) = true := decide_eq_true (by omega)
                  by_cases hxy : x ≤ y
                  · have d3 : decide (x ≤ y) = true := decide_eq_true hxy
                    have HFl : Hid (okTTo l r ss m = false) := hid (okTTo_false l r ss (i + 1 + 1) m (by rw [okTTo_succ, okT, ← ex, show i + 1 - 1 = i from rfl, ← ey, decide_eq_false (show ¬ (y < x) by omega), decide_eq_false (show ¬ (i + 1 = 0) by omega)]; simp) (by omega))
                    clear hok hj hjn hjl ex er hh hr hg hz hil eg hg' p1 ey
                    go_wp2
                    haveI := Cls.ne (wr.alloc (.cells #[.int .i64 x, .string r] 62))
                    refine wp_region_cls (wr.alloc (.cells #[.int .i64 x, .string r] 62)) (by kernel_rfl) (by kernel_rfl) ?_
                    repeat (go_big_quiet_step ((go_at_call 53; exact Cls.of _ (fun u hu => HHx.out u (HIb.out u hu)))))
                    refine wpQuiet_nil ?_
                    rintro _ ⟨c, rfl⟩
                    go_wp2
                    go_ret
                    exact ⟨by rw [HD.out, HFl.out]; rfl, HBc.out c⟩
                  · have d3 : decide (x ≤ y) = false := decide_eq_false hxy
                    have HFl : Hid (okTTo l r ss (i + 1 + 1) = true) := hid (by rw [okTTo_succ, hok, okT, ← ex, ← er, hh, show i + 1 - 1 = i from rfl, ← ey, decide_eq_true (show y < x by omega)]; simp)
                    clear hok hj hjn hjl ex er hh hr hg hz hil eg hg' p1 ey
                    go_wp2
                    haveI := Cls.ne (wr.alloc (.cells #[.int .i64 x, .string r] 62))
                    refine wp_region_cls (wr.alloc (.cells #[.int .i64 x, .string r] 62)) (by kernel_rfl) (by kernel_rfl) ?_
                    repeat (go_big_quiet_step ((go_at_call 53; exact Cls.of _ (fun u hu => HHx.out u (HIb.out u hu)))))
                    refine wpQuiet_nil ?_
                    rintro _ ⟨c, rfl⟩
                    go_wp2
                    go_roundw
                    case rel => exact ⟨i + 1 + 1, by have := HJ.out; omega, by go_num, HFl.out, HBd.out c⟩
                    case measure => simp [intOf]; omega
            · have hr2 : ¬ (r = t) := fun h => hr (by rw [h])
              have hr3 : (r.toList == t.toList) = false := text_no hr
              have HHx : Hid (∀ u : World, IntsIn u a l → Calls Try.prog 53 #[.agg #[.int .i64 ep, .slice a n cap], .int .i64 x] u fun e w' => e = .returned (.bool (hasM l x)) ∧ Below u.heap.size u w') := hid (fun u hu => HH.out x u hu)
              have HFl : Hid (okTTo l t ss m = false) := hid (okTTo_false l t ss (j + 1) m (by rw [okTTo_succ, okT, ← er, decide_eq_false hr]; simp) (by omega))
              clear hok hj hjn hjl ex er hg hr
              go_wp2
              haveI := Cls.ne (wr.alloc (.cells #[.int .i64 x, .string r] 62))
              refine wp_region_cls (wr.alloc (.cells #[.int .i64 x, .string r] 62)) (by kernel_rfl) (by kernel_rfl) ?_
              repeat (go_big_quiet_step ((go_at_call 53; exact Cls.of _ (fun u hu => HHx.out u (HIb.out u hu)))))
              refine wpQuiet_nil ?_
              rintro _ ⟨c, rfl⟩
              go_wp2
              go_ret
              exact ⟨by rw [HD.out, HFl.out]; rfl, HBc.out c⟩
      · have HD : Hid (provesB ep l t ss = false) := hid (by rw [hd, decide_eq_false h2]; simp)
        have h3 : (16 : Int) < (m : Int) := by omega
        clear hrt hd h2
        go_enter Try.func30, Try.ntmps30
        go_wp2_with (first
          | (go_at_call 28; have hx := HE.out; rw [← hx]; clear hx; refine (HRx.out _ HI.out).mono ?_; rintro e w2 ⟨rfl, hb2⟩; have H2 := hid hb2; have c2 : w2.cell? ⟨w.heap.size, 1, none⟩ = some (.slice a n cap) := cell_at ((hb2.block _ (lt_of_blk HCf.out)).trans HCf.out) 1 _ rfl; clear hb2 c0 c1)
          | (go_at_call 52; have := H2; refine (HQx.out _).mono ?_; rintro e w3 ⟨rfl, hb3⟩; have H3 := hid (H2.out.trans (hb3.mono H2.out.size)); clear hb3 c2))
        go_ret
        exact ⟨by rw [HD.out]; rfl, HW.out.trans (H3.out.mono HW.out.size)⟩
end Go.Proofs.Ytpholamobedkhaa

/- The program's bytes of a configuration. -/
namespace Go.Proofs.Ytpholamobedkhaa
open Go.RowKit

/-- The program's writer at block c, with room for lim, and l in it; nothing below c has turned since w0. -/
def CwAt (c lim : Nat) (w0 w : World) (l : List UInt8) : Prop := (∃ v, WrAt w c v (lim : Int) l 0) ∧ Below c w0 w
theorem wL_ok2 (lim : Nat) (l : List UInt8) (s n : Nat) (hn : n < 256 ^ s) (hl : l.length + s ≤ lim) : wL (lim : Int) l 0 s (n : Int) = l ++ be s n ∧ wE (lim : Int) l 0 s (n : Int) = 0 := by
  have h : adm (lim : Int) l.length 0 (inR s (n : Int)) s = 0 := by
    have hi : inR s (n : Int) = true := inR_yes s n hn
    rw [hi]
    unfold adm
    simp
    omega
  exact ⟨by rw [wL, if_pos h, Int.toNat_natCast], by rw [wE, h]⟩
theorem cbyte (c lim : Nat) (w0 w : World) (l : List UInt8) (n : Nat) (hn : n < 256) (hm : lim ≤ 100) (hl : l.length + 1 ≤ lim) (h : CwAt c lim w0 w l) :
    Calls Try.prog 49 #[.pointer (some ⟨c, 0, none⟩), .int .i64 (n : Int)] w fun e w' => e = .returned (.tuple #[]) ∧ CwAt c lim w0 w' (l ++ be 1 n) := by
  obtain ⟨⟨v, hv⟩, hb⟩ := h
  refine (wbyte_any c v lim l 0 n w hv (by omega) (by omega) (by omega) (by omega)).mono ?_
  rintro e w' ⟨rfl, v', h', hk, _⟩
  rw [(wL_ok2 lim l 1 n (by omega) hl).1, (wL_ok2 lim l 1 n (by omega) hl).2] at h'
  exact ⟨rfl, ⟨v', h'⟩, hb.trans (hk.below (Nat.le_of_lt hv.lt) (Nat.le_refl _) (fun g hg => by have := (hv.own.lt g hg).1; omega))⟩
theorem cword (c lim : Nat) (w0 w : World) (l : List UInt8) (n : Nat) (hn : n < 65536) (hm : lim ≤ 100) (hl : l.length + 2 ≤ lim) (h : CwAt c lim w0 w l) :
    Calls Try.prog 50 #[.pointer (some ⟨c, 0, none⟩), .int .i64 (n : Int)] w fun e w' => e = .returned (.tuple #[]) ∧ CwAt c lim w0 w' (l ++ be 2 n) := by
  obtain ⟨⟨v, hv⟩, hb⟩ := h
  refine (wword_any c v lim l 0 n w hv (by omega) (by omega) (by omega) (by omega)).mono ?_
  rintro e w' ⟨rfl, v', h', hk, _⟩
  rw [(wL_ok2 lim l 2 n (by omega) hl).1, (wL_ok2 lim l 2 n (by omega) hl).2] at h'
  exact ⟨rfl, ⟨v', h'⟩, hb.trans (hk.below (Nat.le_of_lt hv.lt) (Nat.le_refl _) (fun g hg => by have := (hv.own.lt g hg).1; omega))⟩
set_option maxRecDepth 100000 in
set_option maxHeartbeats 3200000 in
theorem ctext_any (ep : Int) (a : Option Addr) (n cap : Nat) (l : List Int) (hn : l.length = n) (hm : n ≤ maxLen) (w : World) (hI : IntsIn w a l) :
    Calls Try.prog 29 #[.agg #[.int .i64 ep, .slice a n cap]] w fun e w' => e = .returned (.tuple #[.string (textC ep l), .int .i64 (textE ep l)]) ∧ Below w.heap.size w w' := by
  have HR : Hid (∀ (b : Bool), rightC ep l = b → ∀ u : World, IntsIn u a l → Calls Try.prog 28 #[.agg #[.int .i64 ep, .slice a n cap]] u fun e w' => e = .returned (.bool b) ∧ Below u.heap.size u w') := hid (fun b hb u hu => by rw [← hb]; exact cright_any ep a n cap l hn hm u hu)
  have HI := hid hI
  have HN := hid hn
  clear hI hm hn
  cases hr : rightC ep l with
  | false =>
    rw [show textC ep l = ⟨#[]⟩ by rw [textC, hr]; rfl, show textE ep l = 1 by rw [textE, hr]; rfl]
    have HRb := hid (HR.out false hr)
    clear hr
    go_enter Try.func29, Try.ntmps29
    go_wp2_with (go_at_call 28; refine (HRb.out _ (by exact HI.out.alloc _)).mono ?_; rintro e w1 ⟨rfl, hb1⟩; have H1 := hid (((Below.refl w.heap.size w).alloc (Nat.le_refl _) _).trans (hb1.mono (by simp))); clear hb1)
    go_ret2
    exact ⟨rfl, H1.out⟩
  | true =>
    have HRb := hid (HR.out true hr)
    obtain ⟨⟨he0, he60⟩, hmb⟩ := right_mem hr
    have hml := mem_len hmb
    rw [HN.out] at hml
    obtain ⟨E, rfl⟩ : ∃ E : Nat, ep = (E : Int) := ⟨ep.toNat, by omega⟩
    rw [show textE (E : Int) l = 0 by rw [textE, hr]; rfl]
    obtain ⟨T, eT⟩ : ∃ T, T = textC (E : Int) l := ⟨_, rfl⟩
    have HT : Hid (T = ⟨(be 1 67 ++ be 2 E ++ be 1 n ++ memBytes l).toArray⟩) := hid (by rw [eT, textC, hr, if_pos rfl, confB, Int.toNat_natCast, HN.out])
    rw [← eT]
    have HM := hid hmb
    have hn1 : (n : Int) ≤ 10 := by omega
    have hE1 : (E : Int) ≤ 60 := by omega
    have HE := hid (And.intro hml (show E ≤ 60 by omega))
    obtain ⟨M, eM⟩ : ∃ M : Nat, M = 4 + n := ⟨_, rfl⟩
    have HMx : Hid (M = 4 + n ∧ max ((4 : Int) + (n : Int)) 0 = (M : Int)) := hid ⟨eM, by omega⟩
    clear hr he0 he60 hmb hml eT eM
    go_enter Try.func29, Try.ntmps29
    go_wp2_with (first
      | (go_at_call 28; refine (HRb.out _ (by exact HI.out.alloc _)).mono ?_; rintro e w1 ⟨rfl, hb1⟩
         have c0 : w1.cell? ⟨w.heap.size, 0, none⟩ = some (.int .i64 (E : Int)) := (hb1.cell (p := ⟨w.heap.size, 0, none⟩) (by simp)).trans (cell_at (conf_cells w _ _) 0 _ rfl)
         have c1 : w1.cell? ⟨w.heap.size, 1, none⟩ = some (.slice a n cap) := (hb1.cell (p := ⟨w.heap.size, 1, none⟩) (by simp)).trans (cell_at (conf_cells w _ _) 1 _ rfl)
         have hlt : w.heap.size < w1.heap.size := Nat.lt_of_lt_of_le (by simp) hb1.size
         have H1 := hid (And.intro hlt (And.intro (((Below.refl w.heap.size w).alloc (Nat.le_refl _) _).trans (hb1.mono (by simp))) (And.intro c0 c1)))
         clear hb1 hlt)
      | (go_at_call 48; refine (new_any _ _).mono ?_; rintro e w2 ⟨rfl, hw2⟩
         have H2 : Hid (CwAt w1.heap.size M w1 w2 []) := hid (by rw [hw2, HMx.out.2]; exact ⟨⟨_, ⟨heap_alloc_last w1 _, ⟨rfl, .inl ⟨rfl, rfl⟩⟩⟩⟩, (Below.refl _ _).alloc (Nat.le_refl _) _⟩)
         clear hw2)
      | (go_at_call 50; refine (cword _ M w1 _ (be 1 67) E (by have := HE.out.2; omega) (by have := HE.out.1; have := HMx.out.1; omega) (by rw [be_len]; have := HMx.out.1; have := HE.out.1; omega) (by exact H3.out)).mono ?_; rintro e w4 ⟨rfl, h4⟩; have H4 := hid h4; clear h4; have d1 : w4.cell? ⟨w.heap.size, 1, none⟩ = some (.slice a n cap) := (H4.out.2.cell (p := ⟨w.heap.size, 1, none⟩) H1.out.1).trans H1.out.2.2.2)
      | (go_at_call 49; have := H4; refine (cbyte _ M w1 _ (be 1 67 ++ be 2 E) n (by have := HE.out.1; omega) (by have := HE.out.1; have := HMx.out.1; omega) (by rw [List.length_append, be_len, be_len]; have := HMx.out.1; have := HE.out.1; omega) (by exact H4.out)).mono ?_; rintro e w5 ⟨rfl, h5⟩; have H5 := hid h5; clear h5; have d2 : w5.cell? ⟨w.heap.size, 1, none⟩ = some (.slice a n cap) := (H5.out.2.cell (p := ⟨w.heap.size, 1, none⟩) H1.out.1).trans H1.out.2.2.2)
      | (go_at_call 49; refine (cbyte _ M w1 _ [] 67 (by decide) (by have := HE.out.1; have := HMx.out.1; omega) (by have := HMx.out.1; have := HE.out.1; simp; omega) (by exact H2.out)).mono ?_; rintro e w3 ⟨rfl, h3⟩; have H3 := hid h3; clear h3; have d0 : w3.cell? ⟨w.heap.size, 0, none⟩ = some (.int .i64 (E : Int)) := (H3.out.2.cell (p := ⟨w.heap.size, 0, none⟩) H1.out.1).trans H1.out.2.2.1))
    obtain ⟨P, eP⟩ : ∃ P, P = be 1 67 ++ be 2 E ++ be 1 n := ⟨_, rfl⟩
    rw [← eP] at H5 HT
    have HP : Hid (P.length = 4) := hid (by rw [eP, List.length_append, List.length_append, be_len, be_len, be_len])
    clear eP this
    go_loopw [29] (fun i wr => ∃ j : Nat, j ≤ n ∧ i = .int .i64 (j : Int) ∧ CwAt w1.heap.size M w1 wr (P ++ memBytes (l.take j)))
      (fun i _ => ((n : Int) - intOf i).toNat)
    case atStart => exact ⟨0, by omega, rfl, by rw [List.take_zero, show memBytes [] = [] from rfl, List.append_nil]; exact H5.out⟩
    case round =>
      obtain ⟨j, hj, rfl, hO⟩ := hrel
      have HO := hid hO
      clear hO
      by_cases hjn : j = n
      · have hj1 : ¬ ((j : Int) < (n : Int)) := by omega
        have hO := HO.out
        rw [hjn, List.take_of_length_le (by rw [HN.out]; exact Nat.le_refl _)] at hO
        obtain ⟨⟨v, hv⟩, hb⟩ := hO
        have HV := hid hv
        have HB := hid hb
        clear hj hjn hv hb
        go_wp2_with (go_at_call 51; refine (done_ok _ _ _ _ _ (by exact HV.out)).mono ?_; rintro e wx ⟨rfl, rfl⟩)
        go_ret2
        exact ⟨by rw [HT.out]; rfl, H1.out.2.1.trans (HB.out.mono (Nat.le_of_lt H1.out.1))⟩
      · have hj1 : (j : Int) < (n : Int) := by omega
        have hj0 : (0 : Int) ≤ (j : Int) := Int.natCast_nonneg _
        have hjl : j < l.length := by rw [HN.out]; omega
        have hrg := mem_range HM.out j hjl
        have HS := hid (memBytes_snoc l j hjl)
        obtain ⟨g, off, rfl, hg, hcell⟩ := HI.out.at j _ (getD_some hjl)
        generalize l.getD j 0 = x at hrg HS hcell
        obtain ⟨X, rfl⟩ : ∃ X : Nat, x = (X : Int) := ⟨x.toNat, by omega⟩
        rw [Int.toNat_natCast] at HS
        have cz : wr.cell? ⟨g, off + j, none⟩ = some (.int .i64 (X : Int)) := (HO.out.2.cell (p := ⟨g, off + j, none⟩) (Nat.lt_of_lt_of_le hg H1.out.2.1.size)).trans ((H1.out.2.1.cell (p := ⟨g, off + j, none⟩) hg).trans hcell)
        have HX : Hid (X < 256 ∧ (P ++ memBytes (l.take j)).length + 1 ≤ M ∧ M ≤ 100) := hid ⟨by omega, by rw [List.length_append, HP.out, memBytes_len, List.length_take, HMx.out.1]; omega, by have := HMx.out.1; omega⟩
        have HJ := hid (And.intro hj hjn)
        clear hj hjn hjl hrg hg hcell
        go_wp2_with (go_at_call 49; refine (cbyte _ M w1 _ (P ++ memBytes (l.take j)) X (by exact HX.out.1) (by exact HX.out.2.2) (by exact HX.out.2.1) (by exact HO.out)).mono ?_; rintro e w6 ⟨rfl, h6⟩; have H6 := hid h6; clear h6)
        go_roundw
        case rel => exact ⟨j + 1, by have := HJ.out; omega, by go_num, by rw [HS.out, ← List.append_assoc]; exact H6.out⟩
        case measure => simp [intOf]; omega
end Go.Proofs.Ytpholamobedkhaa

/- The program's tracker: New; which link is good; lists of numbers that are equal. -/
namespace Go.Proofs.Ytpholamobedkhaa
open Go.RowKit

theorem three_cells (e : Int) (x : Value) : (Value.agg #[.int .i64 e, x, .slice none 0 0]).cells = #[.int .i64 e, x, .slice none 0 0] := rfl
/-- A new tracker. -/
theorem TkAt.fresh {w u : World} {a : Option Addr} {c : Nat} {l : List Int} (hN : NewI w.heap.size u a l) (hb : Below w.heap.size w u) (_hl : l.length ≤ 10) :
    TkAt w.heap.size (fun k => k < u.heap.size ∧ w.heap.size ≤ k) ((u.alloc (.cells #[.int .i64 0, .slice a l.length c, .slice none 0 0] 27)).alloc (.cells #[.slice (some ⟨u.heap.size, 0, none⟩) 1 1] 68)) (u.heap.size + 1) (.slice (some ⟨u.heap.size, 0, none⟩) 1 1) l [] := by
  have hA := ((Below.refl u.heap.size u).alloc (Nat.le_refl _) (.cells #[.int .i64 0, .slice a l.length c, .slice none 0 0] 27)).alloc (by simp) (.cells #[.slice (some ⟨u.heap.size, 0, none⟩) 1 1] 68)
  have hs := hb.size
  refine ⟨snd_alloc u _ _, ⟨⟨[.int .i64 0, .slice a l.length c, .slice none 0 0], ⟨rfl, .inr ⟨u.heap.size, 1, #[.int .i64 0, .slice a l.length c, .slice none 0 0], rfl, hs, ?_, Nat.le_refl _, by unfold maxLen; omega, rfl, rfl⟩⟩, fun j e he => ?_⟩, fun g hg hF => ?_⟩, ?_, fun hF => ?_, ?_, fun k hk => ?_⟩
  · rw [heap_alloc_old _ _ (by simp)]
    exact heap_alloc_last u _
  · match j, he with
    | 0, he =>
      cases he
      refine ⟨rfl, fun q d hd => ?_⟩
      match q, hd with
      | 0, hd => cases hd; exact ⟨_, rfl, .i _⟩
      | 1, hd => cases hd; exact ⟨_, rfl, ints_reads (hN.ints.keep hA (Nat.le_refl _)) (fun x hx hne => ⟨(hN.far x hx).2.lt, (hN.far x hx).1⟩)⟩
      | 2, hd => cases hd; exact ⟨_, rfl, .nil none 0 2⟩
  · cases hg
    exact absurd hF.1 (Nat.lt_irrefl _)
  · simp
    omega
  · omega
  · intro e
    simp [Value.ownBlock] at e
  · simp
    omega
set_option maxRecDepth 100000 in
set_option maxHeartbeats 3200000 in
theorem lnew_any (e : Int) (a : Option Addr) (n cap : Nat) (l : List Int) (hn : l.length = n) (hm : n ≤ maxLen) (w : World) (hI : IntsIn w a l) :
    Calls Try.prog 12 #[.agg #[.int .i64 e, .slice a n cap]] w fun r w' => Below w.heap.size w w' ∧ ((rightC e l = true ∧ e = 0) → ∃ v O, r = .returned (.tuple #[v, .int .i64 0]) ∧ TrAt O w' v l [] ∧ ∀ k, O k → w.heap.size ≤ k) ∧ (¬ (rightC e l = true ∧ e = 0) → r = .returned (.tuple #[.pointer none, .int .i64 1])) := by
  have HR : Hid (∀ (B : Bool), rightC e l = B → ∀ u : World, IntsIn u a l → Calls Try.prog 28 #[.agg #[.int .i64 e, .slice a n cap]] u fun e w' => e = .returned (.bool B) ∧ Below u.heap.size u w') := hid (fun B hB u hu => by rw [← hB]; exact cright_any e a n cap l hn hm u hu)
  have hA : Below w.heap.size w (w.alloc (.cells #[.int .i64 e, .slice a n cap] 24)) := (Below.refl _ _).alloc (Nat.le_refl _) _
  have H0 : Hid (IntsIn (w.alloc (.cells #[.int .i64 e, .slice a n cap] 24)) a l ∧ Below w.heap.size w (w.alloc (.cells #[.int .i64 e, .slice a n cap] 24)) ∧ CfAt (w.alloc (.cells #[.int .i64 e, .slice a n cap] 24)) w.heap.size e (.slice a n cap)) := hid ⟨hI.keep hA (Nat.le_refl _), hA, heap_alloc_last w _⟩
  have HI := hid (And.intro hI hn)
  clear hA hI hn
  cases hr : rightC e l with
  | false =>
    have HRb := hid (HR.out false hr)
    have HQ : Hid (¬ ((false = true) ∧ e = 0)) := hid (by simp)
    clear hr
    go_enter Try.func12, Try.ntmps12
    go_wp2_with (go_at_call 28; refine (HRb.out _ (by exact H0.out.1)).mono ?_; rintro r w1 ⟨rfl, hb1⟩; have H1 := hid (H0.out.2.1.trans (hb1.mono H0.out.2.1.size)); clear hb1)
    go_ret2
    exact ⟨H1.out, fun hq => absurd hq HQ.out, fun _ => rfl⟩
  | true =>
    have HRb := hid (HR.out true hr)
    have HL := hid (mem_len (right_mem hr).2).2
    clear hr
    by_cases hz : e = 0
    · subst hz
      go_enter Try.func12, Try.ntmps12
      go_wp2_with (first
        | (go_at_call 28; refine (HRb.out _ (by exact H0.out.1)).mono ?_; rintro r w1 ⟨rfl, hb1⟩
           have H1 := hid (And.intro (H0.out.2.1.trans (hb1.mono H0.out.2.1.size)) (And.intro (H0.out.1.keep hb1 (Nat.le_refl _)) (H0.out.2.2.keep hb1))); clear hb1; have x0 := H1.out.2.2.cells.1; have x1 := H1.out.2.2.cells.2)
        | (go_at_call 33; refine (lcopyConf_any _ _ _ _ l HI.out.2 (by have := HL.out; have := HI.out.2; omega) _ (by exact H1.out.2.1)).mono ?_; rintro r w2 ⟨a2, c2, rfl, hN2, hb2⟩; have H2 := hid (And.intro (hN2.low H1.out.1.size) (H1.out.1.trans (hb2.mono H1.out.1.size))); clear hN2 hb2))
      go_ret2
      have hT := TkAt.fresh (c := c2) H2.out.1 H2.out.2 HL.out
      rw [HI.out.2] at hT
      refine ⟨(H2.out.2.alloc H2.out.2.size _).alloc (by have := H2.out.2.size; simp; omega) _, fun _ => ⟨_, _, rfl, ⟨_, _, _, _, rfl, hT, fun k => Iff.rfl⟩, ?_⟩, fun hq => absurd ⟨trivial, trivial⟩ hq⟩
      have hs := H2.out.2.size
      rintro k (rfl | hk | hk)
      · omega
      · exact hk.2
      · cases hk; exact hs
    · have hzb : (e != 0) = true := by simpa using hz
      have HQ : Hid (¬ ((true = true) ∧ e = 0)) := hid (fun h => hz h.2)
      clear hz
      go_enter Try.func12, Try.ntmps12
      go_wp2_with (go_at_call 28; refine (HRb.out _ (by exact H0.out.1)).mono ?_; rintro r w1 ⟨rfl, hb1⟩
                   have H1 := hid (And.intro (H0.out.2.1.trans (hb1.mono H0.out.2.1.size)) (H0.out.2.2.keep hb1)); clear hb1; have x0 := H1.out.2.cells.1; have x1 := H1.out.2.cells.2)
      go_ret2
      exact ⟨H1.out.1, fun hq => absurd hq HQ.out, fun _ => rfl⟩
set_option maxRecDepth 100000 in
set_option maxHeartbeats 3200000 in
theorem lvalid_any (ep : Int) (a : Option Addr) (n cap : Nat) (l : List Int) (hn : l.length = n) (hm : n ≤ maxLen) (e2 : Int) (a2 : Option Addr) (n2 c2 : Nat) (l2 : List Int) (hn2 : l2.length = n2) (hm2 : n2 ≤ maxLen) (b : Option Addr) (m cp : Nat) (ss : List (Int × ByteArray)) (hsn : ss.length = m) (hsm : m ≤ maxLen) (w : World) (hI : IntsIn w a l) (hI2 : IntsIn w a2 l2) (hP : PairsIn w b ss) :
    Calls Try.prog 10 #[.agg #[.int .i64 ep, .slice a n cap], .agg #[.int .i64 e2, .slice a2 n2 c2, .slice b m cp]] w fun e w' => e = .returned (.int .i64 (validE ep l e2 l2 ss)) ∧ Below w.heap.size w w' := by
  have HR : Hid (∀ (B : Bool), rightC ep l = B → ∀ u : World, IntsIn u a l → Calls Try.prog 28 #[.agg #[.int .i64 ep, .slice a n cap]] u fun e w' => e = .returned (.bool B) ∧ Below u.heap.size u w') := hid (fun B hB u hu => by rw [← hB]; exact cright_any ep a n cap l hn hm u hu)
  have HT : Hid (∀ (E : Int), textE e2 l2 = E → ∀ u : World, IntsIn u a2 l2 → Calls Try.prog 29 #[.agg #[.int .i64 e2, .slice a2 n2 c2]] u fun e w' => e = .returned (.tuple #[.string (textC e2 l2), .int .i64 E]) ∧ Below u.heap.size u w') := hid (fun E hE u hu => by rw [← hE]; exact ctext_any e2 a2 n2 c2 l2 hn2 hm2 u hu)
  have HPv : Hid (∀ (B : Bool), provesB ep l (textC e2 l2) ss = B → ∀ u : World, IntsIn u a l → PairsIn u b ss → Calls Try.prog 30 #[.agg #[.int .i64 ep, .slice a n cap], .string (textC e2 l2), .slice b m cp] u fun e w' => e = .returned (.bool B) ∧ Below u.heap.size u w') := hid (fun B hB u hu hv => by rw [← hB]; exact tproves_any ep a n cap l hn hm (textC e2 l2) b m cp ss hsn hsm u hu hv)
  have H0 : Hid (VaSt w ep (.slice a n cap) e2 (.slice a2 n2 c2) (.slice b m cp) ((w.alloc (.cells #[.int .i64 ep, .slice a n cap] 24)).alloc (.cells #[.int .i64 e2, .slice a2 n2 c2, .slice b m cp] 27))) := hid
    ⟨(Below.heap_alloc _ _ _ (by simp)).trans (heap_alloc_last w _), snd_alloc w _ _, ((Below.refl _ _).alloc (Nat.le_refl _) _).alloc (by simp) _⟩
  have HD : Hid (∀ u : World, Below w.heap.size w u → IntsIn u a l ∧ IntsIn u a2 l2 ∧ PairsIn u b ss) := hid (fun u hu => ⟨hI.keep hu (Nat.le_refl _), hI2.keep hu (Nat.le_refl _), hP.keep hu (Nat.le_refl _)⟩)
  clear hI hI2 hP hn hm hn2 hm2 hsn hsm
  cases hr : rightC ep l with
  | false =>
    rw [show validE ep l e2 l2 ss = 1 by rw [validE, if_pos hr]]
    have HRb := hid (HR.out false hr)
    clear hr
    go_enter Try.func10, Try.ntmps10
    go_wp2_with (go_at_call 28; refine (HRb.out _ (by exact (HD.out _ H0.out.bel).1)).mono ?_; rintro e w1 ⟨rfl, hb1⟩; have H1 := hid (H0.out.keep hb1); clear hb1)
    go_ret
    exact ⟨rfl, H1.out.bel⟩
  | true =>
    have HRb := hid (HR.out true hr)
    have hep : 0 ≤ ep ∧ ep ≤ 60 := (right_mem hr).1
    have hep0 := hep.1
    have hep1 := hep.2
    clear hep
    cases hr2 : rightC e2 l2 with
    | false =>
      rw [show validE ep l e2 l2 ss = 1 by rw [validE, if_neg (by rw [hr]; decide), if_pos hr2]]
      have HTb := hid (HT.out 1 (by rw [textE, hr2]; rfl))
      clear hr hr2
      generalize textC e2 l2 = T at HTb
      go_enter Try.func10, Try.ntmps10
      go_wp2_with (first
        | (go_at_call 28; refine (HRb.out _ (by exact (HD.out _ H0.out.bel).1)).mono ?_; rintro e w1 ⟨rfl, hb1⟩; have H1 := hid (H0.out.keep hb1); clear hb1; have z0 := H1.out.ln.cells.1; have z1 := H1.out.ln.cells.2.1)
        | (go_at_call 29; refine (HTb.out _ (by exact (HD.out _ H1.out.bel).2.1)).mono ?_; rintro e w2 ⟨rfl, hb2⟩; have H2 := hid (H1.out.keep hb2); clear hb2; have y0 := H2.out.ln.cells.1; have y1 := (cell_two H2.out.old).1; have y2 := (cell_two H2.out.old).2; have y3 := H2.out.ln.cells.2.2))
      go_ret
      exact ⟨rfl, H2.out.bel⟩
    | true =>
      have HTb := hid (HT.out 0 (by rw [textE, hr2]; rfl))
      have he2 : e2 ≤ 60 := (right_mem hr2).1.2
      by_cases hz : e2 = ep + 1
      · have hzb : (e2 != ep + 1) = false := by simp [hz]
        have HV : Hid (∀ B, provesB ep l (textC e2 l2) ss = B → validE ep l e2 l2 ss = if B = false then 15 else 0) := hid (fun B hB => by rw [validE, if_neg (by rw [hr]; decide), if_neg (by rw [hr2]; decide), if_neg (fun h => h hz), hB])
        clear hr hr2 hz
        cases hp : provesB ep l (textC e2 l2) ss with
        | false =>
          rw [HV.out false hp, if_pos rfl]
          have HPb := hid (HPv.out false hp)
          clear hp
          generalize textC e2 l2 = T at HTb HPb
          go_enter Try.func10, Try.ntmps10
          go_wp2_with (first
            | (go_at_call 28; refine (HRb.out _ (by exact (HD.out _ H0.out.bel).1)).mono ?_; rintro e w1 ⟨rfl, hb1⟩; have H1 := hid (H0.out.keep hb1); clear hb1; have z0 := H1.out.ln.cells.1; have z1 := H1.out.ln.cells.2.1)
            | (go_at_call 29; refine (HTb.out _ (by exact (HD.out _ H1.out.bel).2.1)).mono ?_; rintro e w2 ⟨rfl, hb2⟩; have H2 := hid (H1.out.keep hb2); clear hb2; have y0 := H2.out.ln.cells.1; have y1 := (cell_two H2.out.old).1; have y2 := (cell_two H2.out.old).2; have y3 := H2.out.ln.cells.2.2)
            | (go_at_call 30; refine (HPb.out _ (by exact (HD.out _ H2.out.bel).1) (by exact (HD.out _ H2.out.bel).2.2)).mono ?_; rintro e w3 ⟨rfl, hb3⟩; have H3 := hid (H2.out.keep hb3); clear hb3))
          go_ret
          exact ⟨rfl, H3.out.bel⟩
        | true =>
          rw [HV.out true hp, if_neg (by decide)]
          have HPb := hid (HPv.out true hp)
          clear hp
          generalize textC e2 l2 = T at HTb HPb
          go_enter Try.func10, Try.ntmps10
          go_wp2_with (first
            | (go_at_call 28; refine (HRb.out _ (by exact (HD.out _ H0.out.bel).1)).mono ?_; rintro e w1 ⟨rfl, hb1⟩; have H1 := hid (H0.out.keep hb1); clear hb1; have z0 := H1.out.ln.cells.1; have z1 := H1.out.ln.cells.2.1)
            | (go_at_call 29; refine (HTb.out _ (by exact (HD.out _ H1.out.bel).2.1)).mono ?_; rintro e w2 ⟨rfl, hb2⟩; have H2 := hid (H1.out.keep hb2); clear hb2; have y0 := H2.out.ln.cells.1; have y1 := (cell_two H2.out.old).1; have y2 := (cell_two H2.out.old).2; have y3 := H2.out.ln.cells.2.2)
            | (go_at_call 30; refine (HPb.out _ (by exact (HD.out _ H2.out.bel).1) (by exact (HD.out _ H2.out.bel).2.2)).mono ?_; rintro e w3 ⟨rfl, hb3⟩; have H3 := hid (H2.out.keep hb3); clear hb3))
          go_ret
          exact ⟨rfl, H3.out.bel⟩
      · have hzb : (e2 != ep + 1) = true := by simpa using hz
        rw [show validE ep l e2 l2 ss = 12 by rw [validE, if_neg (by rw [hr]; decide), if_neg (by rw [hr2]; decide), if_pos hz]]
        clear hr hr2 hz
        generalize textC e2 l2 = T at HTb
        go_enter Try.func10, Try.ntmps10
        go_wp2_with (first
          | (go_at_call 28; refine (HRb.out _ (by exact (HD.out _ H0.out.bel).1)).mono ?_; rintro e w1 ⟨rfl, hb1⟩; have H1 := hid (H0.out.keep hb1); clear hb1; have z0 := H1.out.ln.cells.1; have z1 := H1.out.ln.cells.2.1)
          | (go_at_call 29; refine (HTb.out _ (by exact (HD.out _ H1.out.bel).2.1)).mono ?_; rintro e w2 ⟨rfl, hb2⟩; have H2 := hid (H1.out.keep hb2); clear hb2; have y0 := H2.out.ln.cells.1; have y1 := (cell_two H2.out.old).1; have y2 := (cell_two H2.out.old).2; have y3 := H2.out.ln.cells.2.2))
        go_ret
        exact ⟨rfl, H2.out.bel⟩
end Go.Proofs.Ytpholamobedkhaa

/- Chains that a tracker knows. -/
namespace Go.Proofs.Ytpholamobedkhaa
open Go.RowKit

/-- What every known chain is like. -/
def Good (ls : List Lk) : Prop := ∀ (i : Nat) (k : Lk), ls[i]? = some k → k.1 = (i : Int) + 1 ∧ rightC k.1 k.2.1 = true ∧ k.2.2.length ≤ 16
theorem validE_ok {ep : Int} {l : List Int} {e2 : Int} {l2 : List Int} {ss : List (Int × ByteArray)} (h0 : validE ep l e2 l2 ss = 0) : rightC ep l = true ∧ rightC e2 l2 = true ∧ e2 = ep + 1 ∧ ss.length ≤ 16 := by
  unfold validE at h0
  split at h0
  · cases h0
  · next h1 =>
    split at h0
    · cases h0
    · next h2 =>
      split at h0
      · cases h0
      · next h3 =>
        split at h0
        · cases h0
        · next h4 =>
          have hp : provesB ep l (textC e2 l2) ss = true := by simpa using h4
          rw [provesB, Bool.and_eq_true_iff, Bool.and_eq_true_iff, Bool.and_eq_true_iff] at hp
          have h6 := of_decide_eq_true hp.2.2.2
          exact ⟨by simpa using h1, by simpa using h2, by simpa using h3, by omega⟩
theorem lastZ_good {ls : List Lk} (h : Good ls) : lastZ 0 ls = (ls.length : Int) := by
  unfold lastZ atZ
  split
  · next h0 => omega
  · next h0 =>
    rw [if_pos (by omega)]
    have hj : ((ls.length : Int) - 1).toNat < ls.length := by omega
    rw [List.getD_eq_getElem?_getD, List.getElem?_eq_getElem hj]
    have := (h _ _ (List.getElem?_eq_getElem hj)).1
    simp only [Option.getD_some]
    omega
theorem Good.nil : Good [] := fun i k h => by simp at h
theorem Good.add {fm : List Int} {ls : List Lk} {k : Lk} (h : Good ls) (h0 : addE 0 fm ls k = 0) : Good (ls ++ [k]) := fun i x hx => by
  rcases Nat.lt_trichotomy i ls.length with hi | hi | hi
  · rw [List.getElem?_append_left hi] at hx
    exact h i x hx
  · subst hi
    rw [List.getElem?_append_right (Nat.le_refl _), Nat.sub_self] at hx
    cases hx
    have hv := validE_ok h0
    rw [lastZ_good h] at hv
    exact ⟨hv.2.2.1, hv.2.1, hv.2.2.2⟩
  · rw [List.getElem?_eq_none (by rw [List.length_append, List.length_singleton]; omega)] at hx
    cases hx
theorem Good.chain {fm : List Int} : ∀ {cs pre : List Lk}, Good pre → chainE 0 fm pre cs = 0 → Good (pre ++ cs)
  | [], pre, h, _ => by rw [List.append_nil]; exact h
  | k :: cs, pre, h, h0 => by
    rw [chainE] at h0
    split at h0
    · next h1 =>
      have := Good.chain (h.add h1) h0
      rw [List.append_assoc] at this
      exact this
    · next h1 => exact absurd h0 h1
theorem good_of {fm : List Int} {ls : List Lk} (h : chainE 0 fm [] ls = 0) : Good ls := Good.chain (pre := []) Good.nil h
theorem Good.len {ls : List Lk} (h : Good ls) : ls.length ≤ 60 := by
  cases hl : ls.length with
  | zero => omega
  | succ n =>
    have hj : n < ls.length := by omega
    obtain ⟨h1, h2, _⟩ := h n _ (List.getElem?_eq_getElem hj)
    rw [rightC, Bool.and_eq_true_iff] at h2
    have := of_decide_eq_true h2.1
    omega
theorem Good.small {ls : List Lk} (h : Good ls) (k : Lk) (hk : k ∈ ls) : k.2.1.length ≤ 10 ∧ k.2.2.length ≤ 16 := by
  obtain ⟨i, hi⟩ := List.mem_iff_getElem?.1 hk
  obtain ⟨_, h2, h3⟩ := h i k hi
  exact ⟨(mem_len (right_mem h2).2).2, h3⟩
theorem chainE_append (ep : Int) (fm : List Int) (k : Lk) : ∀ (xs pre : List Lk), chainE ep fm pre (xs ++ [k]) = if chainE ep fm pre xs = 0 then addE ep fm (pre ++ xs) k else chainE ep fm pre xs
  | [], pre => by
    rw [List.nil_append, chainE, chainE, chainE, List.append_nil, if_pos rfl]
    split
    · next h => exact h.symm
    · rfl
  | x :: xs, pre => by
    rw [List.cons_append, chainE, chainE]
    by_cases h : addE ep fm pre x = 0
    · rw [if_pos h, if_pos h, chainE_append ep fm k xs (pre ++ [x]), List.append_assoc]
      rfl
    · rw [if_neg h, if_neg h, if_neg h]
/-- One link more is a known chain again. -/
theorem chain_add {fm : List Int} {ls : List Lk} {k : Lk} (h : chainE 0 fm [] ls = 0) (h0 : addE 0 fm ls k = 0) : chainE 0 fm [] (ls ++ [k]) = 0 := by
  rw [chainE_append, if_pos h, List.nil_append]
  exact h0
theorem take_ok {fm : List Int} {ls cs : List Lk} (h : takeE 0 fm ls cs = 0) : chainE 0 fm [] cs = 0 ∧ otherTo ls cs cs.length = false ∧ ls.length < cs.length ∧ cs.length ≤ 64 := by
  unfold takeE at h
  split at h
  · cases h
  · next h1 =>
    split at h
    · next h2 => exact absurd h h2
    · next h2 =>
      split at h
      · cases h
      · next h3 =>
        split at h
        · cases h
        · exact ⟨by simpa using h2, by simpa using h3, by omega, by omega⟩
/-- Of an epoch that was known the configuration stays. -/
theorem take_stays {fm : List Int} {ls cs : List Lk} (hl : Good ls) (h : takeE 0 fm ls cs = 0) (i : Nat) (k1 k2 : Lk) (h1 : ls[i]? = some k1) (h2 : cs[i]? = some k2) : k1.1 = k2.1 ∧ k1.2.1 = k2.2.1 := by
  obtain ⟨hc, ho, _, _⟩ := take_ok h
  have e1 := (hl i k1 h1).1
  have e2 := ((good_of hc) i k2 h2).1
  refine ⟨by omega, ?_⟩
  obtain ⟨hi1, _⟩ := List.getElem?_eq_some_iff.1 h1
  obtain ⟨hi2, _⟩ := List.getElem?_eq_some_iff.1 h2
  rw [otherTo, List.any_eq_false] at ho
  have := ho i (List.mem_range.2 hi2)
  rw [List.getD_eq_getElem?_getD, List.getD_eq_getElem?_getD, h1, h2, decide_eq_true ⟨hi2, hi1⟩, Bool.true_and] at this
  simp only [Option.getD_some, Bool.not_eq_true', decide_eq_false_iff_not, Decidable.not_not] at this
  exact this.symm
end Go.Proofs.Ytpholamobedkhaa
