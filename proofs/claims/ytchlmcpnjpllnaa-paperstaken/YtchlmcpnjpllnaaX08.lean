/- Texts laid together: PaH PaI PkB MwT. -/
import Derived.Test.YtchlmcpnjpllnaaX07
import Derived.Lib.AppendStr
import Derived.Deep.AppendSrc
/- Which certificate the document takes. -/
namespace Go.Proofs.Ytchlmcpnjpllnaa
open Go.RowKit

/-- Is the i-th signature good? -/
def okG (ps : List (Int × ByteArray)) (T : ByteArray) (ss : List (Int × ByteArray)) (i : Nat) : Bool := seatB ps (idOf ss i) && ((decide (i = 0) || decide (idOf ss (i - 1) < idOf ss i)) && takenB (seatS ps (idOf ss i)) 3 T (rtOf ss i))
def okGTo (ps : List (Int × ByteArray)) (T : ByteArray) (ss : List (Int × ByteArray)) : Nat → Bool
  | 0 => true
  | j + 1 => okGTo ps T ss j && okG ps T ss j
theorem okGTo_succ (ps : List (Int × ByteArray)) (T : ByteArray) (ss : List (Int × ByteArray)) (j : Nat) : okGTo ps T ss (j + 1) = (okGTo ps T ss j && okG ps T ss j) := rfl
theorem okGTo_false (ps : List (Int × ByteArray)) (T : ByteArray) (ss : List (Int × ByteArray)) (j n : Nat) (h : okGTo ps T ss j = false) (hn : j ≤ n) : okGTo ps T ss n = false := by
  induction n with
  | zero =>
    obtain rfl : j = 0 := by omega
    exact h
  | succ n ih =>
    by_cases e : j = n + 1
    · rw [← e]; exact h
    · rw [okGTo_succ, ih (by omega)]; rfl
def chkE (ep : Int) (ps : List (Int × ByteArray)) (c : ByteArray) : Int :=
  if rightP ep ps = false then 4 else if openB c = false then 5 else if opZ c ≠ ep + 1 then 12 else if okGTo ps (opT c) (opL c) (opL c).length = false then 16 else if ((opL c).length : Int) < quoZ (ps.length : Int) then 15 else 0
def chkZ (ep : Int) (ps : List (Int × ByteArray)) (c : ByteArray) : Int := if chkE ep ps c = 0 then opZ c else 0
def chkP (ep : Int) (ps : List (Int × ByteArray)) (c : ByteArray) : List (Int × ByteArray) := if chkE ep ps c = 0 then opP c else []
theorem oT_size (c : ByteArray) : (opT c).size ≤ 65535 := by
  unfold opT
  split
  · rw [oT, tT]
    split
    · rw [← data_len, ext_data, List.length_drop, List.length_take]
      have := val_lt (c.data.toList.take 2)
      have h2 : (c.data.toList.take 2).length ≤ 2 := by rw [List.length_take]; omega
      have h3 : 256 ^ (c.data.toList.take 2).length ≤ 256 ^ 2 := Nat.pow_le_pow_right (by decide) h2
      omega
    · exact Nat.zero_le _
  · exact Nat.zero_le _
theorem opL_len (c : ByteArray) : (opL c).length ≤ 16 := by
  unfold opL
  split
  · next h =>
    rw [sgL_len]
    rw [openB, Bool.and_eq_true_iff, Bool.and_eq_true_iff] at h
    exact of_decide_eq_true h.2.1
  · exact Nat.zero_le _

set_option maxRecDepth 100000 in
set_option maxHeartbeats 6400000 in
theorem xcheck_any (ep : Int) (a : Option Addr) (n cap : Nat) (ps : List (Int × ByteArray)) (hn : ps.length = n) (hm : n ≤ maxLen) (c : ByteArray) (hc : c.size ≤ maxLen) (w : World) (hP : PairsIn w a ps) :
    Calls Try.prog 19 #[.agg #[.int .i64 ep, .slice a n cap], .string c] w fun e w' => ∃ v, e = .returned (.tuple #[.agg #[.int .i64 (chkZ ep ps c), v], .int .i64 (chkE ep ps c)]) ∧ w'.ownsRow w.heap.size 44 2 v (chkP ep ps c).length (pC (chkP ep ps c)) ∧ Below w.heap.size w w' := by
  have hm2 : (n : Int) ≤ 9223372036854775807 := by unfold maxLen at hm; omega
  have HR : Hid (∀ (b : Bool), rightP ep ps = b → ∀ u : World, PairsIn u a ps → Calls Try.prog 31 #[.agg #[.int .i64 ep, .slice a n cap]] u fun e w' => e = .returned (.bool b) ∧ Below u.heap.size u w') := hid (fun b hb u hu => by rw [← hb]; exact xright_any ep a n cap ps hn hm u hu)
  have HK : Hid (∀ (id : Int) (u : World), PairsIn u a ps → Calls Try.prog 47 #[.agg #[.int .i64 ep, .slice a n cap], .int .i64 id] u fun e w' => e = .returned (.tuple #[.string (seatS ps id), .bool (seatB ps id)]) ∧ Below u.heap.size u w') := hid (fun id u hu => xroot_any ep a n cap ps hn hm id u hu)
  have HQ : Hid (∀ u : World, Calls Try.prog 49 #[.int .i64 (n : Int)] u fun e w' => e = .returned (.int .i64 (quoZ (n : Int))) ∧ w' = u) := hid (fun u => vquorum_any (n : Int) hm2 u)
  have H0 : Hid (PpAt ((w.alloc (.cells #[.int .i64 ep, .slice a n cap] 24)).alloc (.cells #[.int .i64 0, .slice none 0 0] 24)) w.heap.size ep (.slice a n cap) 24 ∧ ((w.alloc (.cells #[.int .i64 ep, .slice a n cap] 24)).alloc (.cells #[.int .i64 0, .slice none 0 0] 24)).heap[w.heap.size + 1]? = some (.cells #[.int .i64 0, .slice none 0 0] 24 (0, 0)) ∧ Below w.heap.size w ((w.alloc (.cells #[.int .i64 ep, .slice a n cap] 24)).alloc (.cells #[.int .i64 0, .slice none 0 0] 24))) :=
    hid ⟨(PpAt.new w ep _ _).keep ((Below.refl _ _).alloc (Nat.le_refl _) _), snd_alloc w _ _, ((Below.refl _ _).alloc (Nat.le_refl _) _).alloc (by simp) _⟩
  have HP := hid hP
  have HN := hid hn
  have HC := hid hc
  clear hP hm hn hc
  cases hr : rightP ep ps with
  | false =>
    have HE : Hid (chkE ep ps c = 4) := hid (by rw [chkE, if_pos hr])
    have HRb := hid (HR.out false hr)
    clear hr
    go_enter Try.func19, Try.ntmps19
    go_wp2_with (go_at_call 31; refine (HRb.out _ (by exact HP.out.keep H0.out.2.2 (Nat.le_refl _))).mono ?_; rintro e w1 ⟨rfl, hb1⟩; have H1 := hid (And.intro ((hb1.block _ (lt_of_blk H0.out.2.1)).trans H0.out.2.1) (H0.out.2.2.trans (hb1.mono H0.out.2.2.size))); clear hb1
                 have r0 := (cell_two H1.out.1).1
                 have r1 := (cell_two H1.out.1).2
                 have f0 : w1.frozen? ⟨w.heap.size + 1, 0, none⟩ = false := free_at H1.out.1 0
                 have f1 : w1.frozen? ⟨w.heap.size + 1, 1, none⟩ = false := free_at H1.out.1 1)
    refine ret_pair (s := 4) (s2 := 5) (ad := ⟨w.heap.size + 1, 0, none⟩) rfl rfl (load_paper _ _ (.int .i64 0) (.slice none 0 0) (cell_two (res_put H1.out.1)).1 (cell_two (res_put H1.out.1)).2) rfl rfl ?_
    rw [chkZ, chkP, HE.out]
    exact ⟨_, rfl, ⟨rfl, .inl ⟨rfl, rfl⟩⟩, ((H1.out.2).setCell (p := ⟨w.heap.size + 1, 0, none⟩) (Nat.le_succ _) _).setCell (p := ⟨w.heap.size + 1, 1, none⟩) (Nat.le_succ _) _⟩
  | true =>
    have HRb := hid (HR.out true hr)
    have hep := (rightP_parts hr).1
    have hps := (rightP_parts hr).2.1
    have HOp := hid (xopen_any c HC.out)
    cases hop : openB c with
    | false =>
      have HE : Hid (chkE ep ps c = 5) := hid (by rw [chkE, if_neg (by rw [hr]; decide), if_pos hop])
      rw [hop] at HOp
      rw [show opZ c = 0 by rw [opZ, hop]; rfl, show opP c = [] by rw [opP, hop]; rfl, show opT c = ⟨#[]⟩ by rw [opT, hop]; rfl, show opL c = [] by rw [opL, hop]; rfl] at HOp
      clear hr hop hep hps
      go_enter Try.func19, Try.ntmps19
      go_wp2_with (first
        | (go_at_call 31; refine (HRb.out _ (by exact HP.out.keep H0.out.2.2 (Nat.le_refl _))).mono ?_; rintro e w1 ⟨rfl, hb1⟩; have H1 := hid (And.intro ((hb1.block _ (lt_of_blk H0.out.2.1)).trans H0.out.2.1) (H0.out.2.2.trans (hb1.mono H0.out.2.2.size))); clear hb1)
        | (go_at_call 46; refine (HOp.out _).mono ?_; rintro e w2 ⟨v2, u2, rfl, ho2, hs2, hb2⟩
           obtain ⟨ad2, cap2, hv2, _⟩ := own_pairs ho2
           have hv3 : v2 = .slice ad2 0 cap2 := hv2
           subst hv3
           obtain ⟨ad3, cap3, hu2, _⟩ := own_pairs hs2
           have hu3 : u2 = .slice ad3 0 cap3 := hu2
           subst hu3
           have hb3 : Below w1.heap.size w1 (w2.alloc (.cells #[.int .i64 0, .slice ad2 0 cap2] 24)) := hb2.trans ((Below.refl _ _).alloc hb2.size _)
           have H2 := hid (And.intro ((hb3.block _ (lt_of_blk H1.out.1)).trans H1.out.1) (H1.out.2.trans (hb3.mono H1.out.2.size)))
           clear ho2 hs2 hb2 hb3 hv2 hu2
           have r0 := (cell_two H2.out.1).1
           have r1 := (cell_two H2.out.1).2
           have f0 : (w2.alloc (.cells #[.int .i64 0, .slice ad2 0 cap2] 24)).frozen? ⟨w.heap.size + 1, 0, none⟩ = false := free_at H2.out.1 0
           have f1 : (w2.alloc (.cells #[.int .i64 0, .slice ad2 0 cap2] 24)).frozen? ⟨w.heap.size + 1, 1, none⟩ = false := free_at H2.out.1 1))
      refine ret_pair (s := 4) (s2 := 5) (ad := ⟨w.heap.size + 1, 0, none⟩) rfl rfl (load_paper _ _ (.int .i64 0) (.slice none 0 0) (cell_two (res_put H2.out.1)).1 (cell_two (res_put H2.out.1)).2) rfl rfl ?_
      rw [chkZ, chkP, HE.out]
      exact ⟨_, rfl, ⟨rfl, .inl ⟨rfl, rfl⟩⟩, ((H2.out.2).setCell (p := ⟨w.heap.size + 1, 0, none⟩) (Nat.le_succ _) _).setCell (p := ⟨w.heap.size + 1, 1, none⟩) (Nat.le_succ _) _⟩
    | true =>
      rw [hop] at HOp
      have hT := oT_size c
      have hLl := opL_len c
      have HE0 : Hid (chkE ep ps c = if opZ c ≠ ep + 1 then 12 else if okGTo ps (opT c) (opL c) (opL c).length = false then 16 else if ((opL c).length : Int) < quoZ (n : Int) then 15 else 0) := hid (by rw [chkE, if_neg (by rw [hr]; decide), if_neg (by rw [hop]; decide), HN.out])
      have HZP : Hid (chkE ep ps c = 0 → chkZ ep ps c = opZ c ∧ chkP ep ps c = opP c) := hid (fun h => ⟨by rw [chkZ, if_pos h], by rw [chkP, if_pos h]⟩)
      generalize opZ c = Z at HOp HE0 HZP
      generalize opT c = T at HOp HE0 hT
      generalize opL c = L at HOp HE0 hLl
      generalize opP c = P at HOp HZP
      obtain ⟨m, em⟩ : ∃ m, m = L.length := ⟨_, rfl⟩
      rw [← em] at HE0 hLl
      have HM := hid (And.intro em hLl)
      have hm16 : (m : Int) ≤ 16 := by omega
      have hm0 : (0 : Int) ≤ (m : Int) := Int.natCast_nonneg _
      have he0 : 0 ≤ ep := hep.1
      have he1 : ep ≤ 65535 := hep.2
      have HTs := hid hT
      clear hr hop hT hLl em hep hps
      by_cases hZ : Z = ep + 1
      · have HE1 : Hid (chkE ep ps c = if okGTo ps T L m = false then 16 else if (m : Int) < quoZ (n : Int) then 15 else 0) := hid (by rw [HE0.out, if_neg (fun h => h hZ)])
        have hZb : (Z != ep + 1) = false := by simp [hZ]
        have HZ := hid hZ
        clear HE0 hZ
        go_enter Try.func19, Try.ntmps19
        go_wp2_with (first
          | (go_at_call 31; refine (HRb.out _ (by exact HP.out.keep H0.out.2.2 (Nat.le_refl _))).mono ?_; rintro e w1 ⟨rfl, hb1⟩; have H1 := hid (And.intro (H0.out.1.keep hb1) (And.intro ((hb1.block _ (lt_of_blk H0.out.2.1)).trans H0.out.2.1) (H0.out.2.2.trans (hb1.mono H0.out.2.2.size)))); clear hb1)
          | (go_at_call 46; refine (HOp.out _).mono ?_; rintro e w2 ⟨v2, u2, rfl, ho2, hs2, hb2⟩
             obtain ⟨ad2, cap2, hv2, _⟩ := own_pairs ho2
             subst hv2
             obtain ⟨ad3, cap3, hu2, hI3⟩ := own_pairs hs2
             subst hu2
             have hb3 : Below w2.heap.size w2 (w2.alloc (.cells #[.int .i64 Z, .slice ad2 P.length cap2] 24)) := (Below.refl _ _).alloc (Nat.le_refl _) _
             have hb13 := hb2.trans (hb3.mono hb2.size)
             have H2 := hid (And.intro (H1.out.1.keep hb13) (And.intro ((hb13.block _ (lt_of_blk H1.out.2.1)).trans H1.out.2.1) (And.intro (H1.out.2.2.trans (hb13.mono H1.out.2.2.size)) (And.intro (show PpAt (w2.alloc (.cells #[.int .i64 Z, .slice ad2 P.length cap2] 24)) w2.heap.size Z (.slice ad2 P.length cap2) 24 from heap_alloc_last w2 _) (And.intro ((ho2.mono (show w.heap.size + 2 ≤ w1.heap.size from lt_of_blk H1.out.2.1)).alloc (.cells #[.int .i64 Z, .slice ad2 P.length cap2] 24)) (And.intro (hI3.keep hb3 (Nat.le_refl _)) (Nat.le_trans (lt_of_blk H1.out.2.1) hb2.size)))))))
             clear ho2 hs2 hb2 hb3 hb13 hI3
             have q0 := H2.out.2.2.2.1.c0
             have q1 := H2.out.1.c0
             have r0 := (cell_two H2.out.2.1).1
             have r1 := (cell_two H2.out.2.1).2
             have f0 : (w2.alloc (.cells #[.int .i64 Z, .slice ad2 P.length cap2] 24)).frozen? ⟨w.heap.size + 1, 0, none⟩ = false := free_at H2.out.2.1 0
             have f1 : (w2.alloc (.cells #[.int .i64 Z, .slice ad2 P.length cap2] 24)).frozen? ⟨w.heap.size + 1, 1, none⟩ = false := free_at H2.out.2.1 1))
        rename World => w2
        obtain ⟨b, eb⟩ : ∃ b, b = w2.heap.size := ⟨_, rfl⟩
        obtain ⟨w3, ew3⟩ : ∃ w3, w3 = w2.alloc (.cells #[.int .i64 Z, .slice ad2 P.length cap2] 24) := ⟨_, rfl⟩
        rw [← eb, ← ew3] at H2
        rw [← eb, ← ew3]
        clear q0 q1 r0 r1 f0 f1 eb ew3 H1 H0
        rw [← HM.out.1]
        have HG : Hid (∀ u : World, Below w3.heap.size w3 u → u.heap[w.heap.size + 1]? = some (.cells #[.int .i64 0, .slice none 0 0] 24 (0, 0)) ∧ PairsIn u a ps ∧ Below w.heap.size w u ∧ PpAt u w.heap.size ep (.slice a n cap) 24 ∧ PairsIn u ad3 L ∧ PpAt u b Z (.slice ad2 P.length cap2) 24 ∧ u.ownsRow (w.heap.size + 2) 44 2 (.slice ad2 P.length cap2) P.length (pC P)) := hid (fun u hu => by
          have hbu : Below w.heap.size w u := H2.out.2.2.1.trans (hu.mono H2.out.2.2.1.size)
          exact ⟨(hu.block _ (lt_of_blk H2.out.2.1)).trans H2.out.2.1, HP.out.keep hbu (Nat.le_refl _), hbu, H2.out.1.keep hu, H2.out.2.2.2.2.2.1.keep hu (Nat.le_refl _), H2.out.2.2.2.1.keep hu, ownsRow_keep H2.out.2.2.2.2.1 hu⟩)
        have HW3 := hid (Below.refl w3.heap.size w3)
        clear H2 hZb HOp HRb HR
        go_loopw [10] (fun i wr => ∃ j : Nat, j ≤ m ∧ i = .int .i64 (j : Int) ∧ okGTo ps T L j = true ∧ Below w3.heap.size w3 wr)
          (fun i _ => ((m : Int) - intOf i).toNat)
        case atStart => exact ⟨0, by omega, rfl, rfl, HW3.out⟩
        case round =>
          obtain ⟨j, hj, rfl, hok, hbel⟩ := hrel
          have HB := hid hbel
          clear hbel
          have hj0 : (0 : Int) ≤ (j : Int) := Int.natCast_nonneg _
          by_cases hjm : j = m
          · have hj1 : ¬ ((j : Int) < (m : Int)) := by omega
            rw [hjm] at hok
            have k1 := (HG.out _ HB.out).2.2.2.1.c1
            have p0 := (HG.out _ HB.out).2.2.2.2.2.1.c0
            have p1 := (HG.out _ HB.out).2.2.2.2.2.1.c1
            have hres := (HG.out _ HB.out).1
            have r0 := (cell_two hres).1
            have r1 := (cell_two hres).2
            have f0 : wr.frozen? ⟨w.heap.size + 1, 0, none⟩ = false := free_at hres 0
            have f1 : wr.frozen? ⟨w.heap.size + 1, 1, none⟩ = false := free_at hres 1
            have HRs := hid hres
            generalize quoZ (n : Int) = Q at HE1 HQ
            by_cases hq : (m : Int) < Q
            · have HE : Hid (chkE ep ps c = 15) := hid (by rw [HE1.out, if_neg (by rw [hok]; decide), if_pos hq])
              clear hj hok hjm hres
              go_wp2_with (go_at_call 49; refine (HQ.out _).mono ?_; rintro e wx ⟨rfl, rfl⟩)
              refine ret_pair (s := 4) (s2 := 5) (ad := ⟨w.heap.size + 1, 0, none⟩) rfl rfl (load_paper _ _ (.int .i64 0) (.slice none 0 0) (cell_two (res_put HRs.out)).1 (cell_two (res_put HRs.out)).2) rfl rfl ?_
              rw [chkZ, chkP, HE.out]
              exact ⟨_, rfl, ⟨rfl, .inl ⟨rfl, rfl⟩⟩, (((HG.out _ HB.out).2.2.1).setCell (p := ⟨w.heap.size + 1, 0, none⟩) (Nat.le_succ _) _).setCell (p := ⟨w.heap.size + 1, 1, none⟩) (Nat.le_succ _) _⟩
            · have HE : Hid (chkE ep ps c = 0) := hid (by rw [HE1.out, if_neg (by rw [hok]; decide), if_neg hq])
              clear hj hok hjm hres
              go_wp2_with (go_at_call 49; refine (HQ.out _).mono ?_; rintro e wx ⟨rfl, rfl⟩)
              refine ret_pair (s := 4) (s2 := 5) (ad := ⟨w.heap.size + 1, 0, none⟩) rfl rfl (load_paper _ _ (.int .i64 Z) (.slice ad2 P.length cap2) (cell_two (res_put HRs.out)).1 (cell_two (res_put HRs.out)).2) rfl rfl ?_
              rw [(HZP.out HE.out).1, (HZP.out HE.out).2, HE.out]
              refine ⟨_, rfl, ?_, ((HG.out _ HB.out).2.2.1.setCell (p := ⟨w.heap.size + 1, 0, none⟩) (Nat.le_succ _) _).setCell (p := ⟨w.heap.size + 1, 1, none⟩) (Nat.le_succ _) _⟩
              exact (own_put (own_put (HG.out _ HB.out).2.2.2.2.2.2 (w.heap.size + 1) 0 _ (by omega)) (w.heap.size + 1) 1 _ (by omega)).mono (by omega)
          · have hj1 : (j : Int) < (m : Int) := by omega
            have hjl : j < L.length := by rw [← HM.out.1]; omega
            obtain ⟨g, off, rfl, hg, _, _⟩ := (HG.out _ HB.out).2.2.2.2.1.at j _ (getP_some hjl)
            have hall : ∀ u : World, Below w3.heap.size w3 u → ∀ i, i < L.length → u.cell? ⟨g, off + i * 2, none⟩ = some (.int .i64 (idOf L i)) ∧ u.cell? ⟨g, off + i * 2 + 1, none⟩ = some (.string (rtOf L i)) := fun u hu i hi => by
              obtain ⟨g', off', eg, _, h1, h2⟩ := (HG.out u hu).2.2.2.2.1.at i _ (getP_some hi)
              obtain ⟨rfl, rfl⟩ : g = g' ∧ off = off' := by simp at eg; exact eg
              exact ⟨h1, h2⟩
            obtain ⟨x, ex⟩ : ∃ x, x = idOf L j := ⟨_, rfl⟩
            obtain ⟨r, er⟩ : ∃ r, r = rtOf L j := ⟨_, rfl⟩
            have HX : Hid (∀ u : World, Below w3.heap.size w3 u → u.cell? ⟨g, off + j * 2, none⟩ = some (.int .i64 x) ∧ u.cell? ⟨g, off + j * 2 + 1, none⟩ = some (.string r)) := hid (fun u hu => by rw [ex, er]; exact hall u hu j hjl)
            obtain ⟨Y, eY⟩ : ∃ Y, Y = seatS ps x := ⟨_, rfl⟩
            obtain ⟨V, eV⟩ : ∃ V, V = takenB Y 3 T r := ⟨_, rfl⟩
            have HV : Hid (∀ u : World, Calls Try.prog 48 #[.string Y, .int .i64 3, .string T, .string r] u fun e w' => e = .returned (.bool V) ∧ Below u.heap.size u w') := hid (fun u => by rw [eV]; exact hverify_any Y 3 T r (by have := HTs.out; omega) u)
            have hokj : okG ps T L j = (seatB ps x && ((decide (j = 0) || decide (idOf L (j - 1) < x)) && V)) := by rw [okG, ← ex, ← er, ← eY, ← eV]
            have d0 : ∀ y : Cls wr, y.1.cell? ⟨w.heap.size, 0, none⟩ = some (.int .i64 ep) := fun y => (HG.out _ (HB.out.trans (y.2.mono HB.out.size))).2.2.2.1.c0
            have d1 : ∀ y : Cls wr, y.1.cell? ⟨w.heap.size, 1, none⟩ = some (.slice a n cap) := fun y => (HG.out _ (HB.out.trans (y.2.mono HB.out.size))).2.2.2.1.c1
            have d2 : ∀ y : Cls wr, y.1.cell? ⟨g, off + j * 2, none⟩ = some (.int .i64 x) := fun y => (HX.out _ (HB.out.trans (y.2.mono HB.out.size))).1
            cases hS : seatB ps x with
            | false =>
              have HKx : Hid (∀ u : World, PairsIn u a ps → Calls Try.prog 47 #[.agg #[.int .i64 ep, .slice a n cap], .int .i64 x] u fun e w' => e = .returned (.tuple #[.string Y, .bool false]) ∧ Below u.heap.size u w') := hid (fun u hu => by rw [eY, ← hS]; exact HK.out x u hu)
              have HE : Hid (chkE ep ps c = 16) := hid (by rw [HE1.out, if_pos (okGTo_false ps T L (j + 1) m (by rw [okGTo_succ, hokj, hS]; simp) (by omega))])
              clear hall hjl hg ex er eY eV hokj hS hok hj hjm
              go_wp2
              haveI := Cls.ne wr
              refine wp_region_cls wr (by kernel_rfl) (by kernel_rfl) ?_
              repeat (go_big_quiet_step ((go_at_call 47; exact Cls.of _ (fun u hu => HKx.out u (HG.out u (HB.out.trans (hu.mono HB.out.size))).2.1))))
              refine wpQuiet_nil ?_
              rintro _ ⟨q, rfl⟩
              have hq3 : Below w3.heap.size w3 q.1 := HB.out.trans (q.2.mono HB.out.size)
              obtain ⟨wq, eq⟩ : ∃ wq, wq = q.1 := ⟨_, rfl⟩
              rw [← eq] at hq3 ⊢
              have HQ3 := hid hq3
              clear eq hq3 d0 d1 d2
              go_wp2
              have e0 : ∀ y : Cls wq, y.1.cell? ⟨g, off + j * 2, none⟩ = some (.int .i64 x) := fun y => (HX.out y.1 (HQ3.out.trans (y.2.mono HQ3.out.size))).1
              have e1 : ∀ y : Cls wq, y.1.cell? ⟨g, off + j * 2 + 1, none⟩ = some (.string r) := fun y => (HX.out y.1 (HQ3.out.trans (y.2.mono HQ3.out.size))).2
              haveI := Cls.ne wq
              refine wp_region_cls wq (by kernel_rfl) (by kernel_rfl) ?_
              repeat (go_big_quiet_step ((go_at_call 48; exact Cls.of _ (fun u _ => HV.out u))))
              refine wpQuiet_nil ?_
              rintro _ ⟨y, rfl⟩
              have hy3 : Below w3.heap.size w3 y.1 := HQ3.out.trans (y.2.mono HQ3.out.size)
              obtain ⟨wy, ey⟩ : ∃ wy, wy = y.1 := ⟨_, rfl⟩
              rw [← ey] at hy3 ⊢
              have HY := hid hy3
              clear ey hy3 e0 e1
              have hres := (HG.out _ HY.out).1
              have r0 := (cell_two hres).1
              have r1 := (cell_two hres).2
              have f0 : wy.frozen? ⟨w.heap.size + 1, 0, none⟩ = false := free_at hres 0
              have f1 : wy.frozen? ⟨w.heap.size + 1, 1, none⟩ = false := free_at hres 1
              have HRs := hid hres
              clear hres
              go_wp2
              refine ret_pair (s := 4) (s2 := 5) (ad := ⟨w.heap.size + 1, 0, none⟩) rfl rfl (load_paper _ _ (.int .i64 0) (.slice none 0 0) (cell_two (res_put HRs.out)).1 (cell_two (res_put HRs.out)).2) rfl rfl ?_
              rw [chkZ, chkP, HE.out]
              exact ⟨_, rfl, ⟨rfl, .inl ⟨rfl, rfl⟩⟩, (((HG.out _ HY.out).2.2.1).setCell (p := ⟨w.heap.size + 1, 0, none⟩) (Nat.le_succ _) _).setCell (p := ⟨w.heap.size + 1, 1, none⟩) (Nat.le_succ _) _⟩
            | true =>
              have HKx : Hid (∀ u : World, PairsIn u a ps → Calls Try.prog 47 #[.agg #[.int .i64 ep, .slice a n cap], .int .i64 x] u fun e w' => e = .returned (.tuple #[.string Y, .bool true]) ∧ Below u.heap.size u w') := hid (fun u hu => by rw [eY, ← hS]; exact HK.out x u hu)
              by_cases hz : j = 0
              · have b4 : decide (0 < j) = false := decide_eq_false (by omega)
                cases hV : V with
                | true =>
                  have HF : Hid (okGTo ps T L (j + 1) = true) := hid (by rw [okGTo_succ, hok, hokj, hS, hV, decide_eq_true hz]; rfl)
                  rw [hV] at HV
                  have HJ := hid (And.intro hj hjm)
                  clear hall hjl hg ex er eY eV hokj hS hok hj hjm hz hV
                  go_wp2
                  haveI := Cls.ne wr
                  refine wp_region_cls wr (by kernel_rfl) (by kernel_rfl) ?_
                  repeat (go_big_quiet_step ((go_at_call 47; exact Cls.of _ (fun u hu => HKx.out u (HG.out u (HB.out.trans (hu.mono HB.out.size))).2.1))))
                  refine wpQuiet_nil ?_
                  rintro _ ⟨q, rfl⟩
                  have hq3 : Below w3.heap.size w3 q.1 := HB.out.trans (q.2.mono HB.out.size)
                  obtain ⟨wq, eq⟩ : ∃ wq, wq = q.1 := ⟨_, rfl⟩
                  rw [← eq] at hq3 ⊢
                  have HQ3 := hid hq3
                  clear eq hq3 d0 d1 d2
                  go_wp2
                  have e0 : ∀ y : Cls wq, y.1.cell? ⟨g, off + j * 2, none⟩ = some (.int .i64 x) := fun y => (HX.out y.1 (HQ3.out.trans (y.2.mono HQ3.out.size))).1
                  have e1 : ∀ y : Cls wq, y.1.cell? ⟨g, off + j * 2 + 1, none⟩ = some (.string r) := fun y => (HX.out y.1 (HQ3.out.trans (y.2.mono HQ3.out.size))).2
                  haveI := Cls.ne wq
                  refine wp_region_cls wq (by kernel_rfl) (by kernel_rfl) ?_
                  repeat (go_big_quiet_step ((go_at_call 48; exact Cls.of _ (fun u _ => HV.out u))))
                  refine wpQuiet_nil ?_
                  rintro _ ⟨y, rfl⟩
                  have hy3 : Below w3.heap.size w3 y.1 := HQ3.out.trans (y.2.mono HQ3.out.size)
                  obtain ⟨wy, ey⟩ : ∃ wy, wy = y.1 := ⟨_, rfl⟩
                  rw [← ey] at hy3 ⊢
                  have HY := hid hy3
                  clear ey hy3 e0 e1
                  go_wp2
                  go_roundw
                  case rel => exact ⟨j + 1, by have := HJ.out; omega, by go_num, HF.out, HY.out⟩
                  case measure => simp [intOf]; omega
                | false =>
                  have HE : Hid (chkE ep ps c = 16) := hid (by rw [HE1.out, if_pos (okGTo_false ps T L (j + 1) m (by rw [okGTo_succ, hokj, hV]; simp) (by omega))])
                  rw [hV] at HV
                  clear hall hjl hg ex er eY eV hokj hS hok hj hjm hz hV
                  go_wp2
                  haveI := Cls.ne wr
                  refine wp_region_cls wr (by kernel_rfl) (by kernel_rfl) ?_
                  repeat (go_big_quiet_step ((go_at_call 47; exact Cls.of _ (fun u hu => HKx.out u (HG.out u (HB.out.trans (hu.mono HB.out.size))).2.1))))
                  refine wpQuiet_nil ?_
                  rintro _ ⟨q, rfl⟩
                  have hq3 : Below w3.heap.size w3 q.1 := HB.out.trans (q.2.mono HB.out.size)
                  obtain ⟨wq, eq⟩ : ∃ wq, wq = q.1 := ⟨_, rfl⟩
                  rw [← eq] at hq3 ⊢
                  have HQ3 := hid hq3
                  clear eq hq3 d0 d1 d2
                  go_wp2
                  have e0 : ∀ y : Cls wq, y.1.cell? ⟨g, off + j * 2, none⟩ = some (.int .i64 x) := fun y => (HX.out y.1 (HQ3.out.trans (y.2.mono HQ3.out.size))).1
                  have e1 : ∀ y : Cls wq, y.1.cell? ⟨g, off + j * 2 + 1, none⟩ = some (.string r) := fun y => (HX.out y.1 (HQ3.out.trans (y.2.mono HQ3.out.size))).2
                  haveI := Cls.ne wq
                  refine wp_region_cls wq (by kernel_rfl) (by kernel_rfl) ?_
                  repeat (go_big_quiet_step ((go_at_call 48; exact Cls.of _ (fun u _ => HV.out u))))
                  refine wpQuiet_nil ?_
                  rintro _ ⟨y, rfl⟩
                  have hy3 : Below w3.heap.size w3 y.1 := HQ3.out.trans (y.2.mono HQ3.out.size)
                  obtain ⟨wy, ey⟩ : ∃ wy, wy = y.1 := ⟨_, rfl⟩
                  rw [← ey] at hy3 ⊢
                  have HY := hid hy3
                  clear ey hy3 e0 e1
                  have hres := (HG.out _ HY.out).1
                  have r0 := (cell_two hres).1
                  have r1 := (cell_two hres).2
                  have f0 : wy.frozen? ⟨w.heap.size + 1, 0, none⟩ = false := free_at hres 0
                  have f1 : wy.frozen? ⟨w.heap.size + 1, 1, none⟩ = false := free_at hres 1
                  have HRs := hid hres
                  clear hres
                  go_wp2
                  refine ret_pair (s := 4) (s2 := 5) (ad := ⟨w.heap.size + 1, 0, none⟩) rfl rfl (load_paper _ _ (.int .i64 0) (.slice none 0 0) (cell_two (res_put HRs.out)).1 (cell_two (res_put HRs.out)).2) rfl rfl ?_
                  rw [chkZ, chkP, HE.out]
                  exact ⟨_, rfl, ⟨rfl, .inl ⟨rfl, rfl⟩⟩, (((HG.out _ HY.out).2.2.1).setCell (p := ⟨w.heap.size + 1, 0, none⟩) (Nat.le_succ _) _).setCell (p := ⟨w.heap.size + 1, 1, none⟩) (Nat.le_succ _) _⟩
              · obtain ⟨i, rfl⟩ : ∃ i, j = i + 1 := ⟨j - 1, by omega⟩
                obtain ⟨z, ez⟩ : ∃ z, z = idOf L i := ⟨_, rfl⟩
                have HX2 : Hid (∀ u : World, Below w3.heap.size w3 u → u.cell? ⟨g, off + i * 2, none⟩ = some (.int .i64 z)) := hid (fun u hu => by rw [ez]; exact (hall u hu i (by omega)).1)
                rw [show i + 1 - 1 = i from rfl, ← ez, decide_eq_false hz, Bool.false_or] at hokj
                have hi1 : (i : Int) < (m : Int) := by omega
                have hi2 : (0 : Int) ≤ (i : Int) := by omega
                have b4 : decide ((0 : Int) < (i : Int) + 1) = true := decide_eq_true (by omega)
                by_cases hxz : x ≤ z
                · have b5 : decide (x ≤ z) = true := decide_eq_true hxz
                  have HE : Hid (chkE ep ps c = 16) := hid (by rw [HE1.out, if_pos (okGTo_false ps T L (i + 1 + 1) m (by rw [okGTo_succ, hokj, decide_eq_false (by omega)]; simp) (by omega))])
                  clear hall hjl hg ex er eY eV hokj hS hok hj hjm hz ez
                  go_wp2
                  haveI := Cls.ne wr
                  refine wp_region_cls wr (by kernel_rfl) (by kernel_rfl) ?_
                  repeat (go_big_quiet_step ((go_at_call 47; exact Cls.of _ (fun u hu => HKx.out u (HG.out u (HB.out.trans (hu.mono HB.out.size))).2.1))))
                  refine wpQuiet_nil ?_
                  rintro _ ⟨q, rfl⟩
                  have hq3 : Below w3.heap.size w3 q.1 := HB.out.trans (q.2.mono HB.out.size)
                  obtain ⟨wq, eq⟩ : ∃ wq, wq = q.1 := ⟨_, rfl⟩
                  rw [← eq] at hq3 ⊢
                  have HQ3 := hid hq3
                  clear eq hq3 d0 d1 d2
                  go_wp2
                  have e0 : ∀ y : Cls wq, y.1.cell? ⟨g, off + (i + 1) * 2, none⟩ = some (.int .i64 x) := fun y => (HX.out y.1 (HQ3.out.trans (y.2.mono HQ3.out.size))).1
                  have e1 : ∀ y : Cls wq, y.1.cell? ⟨g, off + (i + 1) * 2 + 1, none⟩ = some (.string r) := fun y => (HX.out y.1 (HQ3.out.trans (y.2.mono HQ3.out.size))).2
                  have e2 : ∀ y : Cls wq, y.1.cell? ⟨g, off + i * 2, none⟩ = some (.int .i64 z) := fun y => HX2.out y.1 (HQ3.out.trans (y.2.mono HQ3.out.size))
                  haveI := Cls.ne wq
                  refine wp_region_cls wq (by kernel_rfl) (by kernel_rfl) ?_
                  repeat (go_big_quiet_step ((go_at_call 48; exact Cls.of _ (fun u _ => HV.out u))))
                  refine wpQuiet_nil ?_
                  rintro _ ⟨y, rfl⟩
                  have hy3 : Below w3.heap.size w3 y.1 := HQ3.out.trans (y.2.mono HQ3.out.size)
                  obtain ⟨wy, ey⟩ : ∃ wy, wy = y.1 := ⟨_, rfl⟩
                  rw [← ey] at hy3 ⊢
                  have HY := hid hy3
                  clear ey hy3 e0 e1
                  have hres := (HG.out _ HY.out).1
                  have r0 := (cell_two hres).1
                  have r1 := (cell_two hres).2
                  have f0 : wy.frozen? ⟨w.heap.size + 1, 0, none⟩ = false := free_at hres 0
                  have f1 : wy.frozen? ⟨w.heap.size + 1, 1, none⟩ = false := free_at hres 1
                  have HRs := hid hres
                  clear hres
                  go_wp2
                  refine ret_pair (s := 4) (s2 := 5) (ad := ⟨w.heap.size + 1, 0, none⟩) rfl rfl (load_paper _ _ (.int .i64 0) (.slice none 0 0) (cell_two (res_put HRs.out)).1 (cell_two (res_put HRs.out)).2) rfl rfl ?_
                  rw [chkZ, chkP, HE.out]
                  exact ⟨_, rfl, ⟨rfl, .inl ⟨rfl, rfl⟩⟩, (((HG.out _ HY.out).2.2.1).setCell (p := ⟨w.heap.size + 1, 0, none⟩) (Nat.le_succ _) _).setCell (p := ⟨w.heap.size + 1, 1, none⟩) (Nat.le_succ _) _⟩
                · have b5 : decide (x ≤ z) = false := decide_eq_false hxz
                  cases hV : V with
                  | true =>
                    have HF : Hid (okGTo ps T L (i + 1 + 1) = true) := hid (by rw [okGTo_succ, hok, hokj, hS, hV, decide_eq_true (by omega)]; rfl)
                    rw [hV] at HV
                    have HJ := hid (And.intro hj hjm)
                    clear hall hjl hg ex er eY eV hokj hS hok hj hjm hz hV ez
                    go_wp2
                    haveI := Cls.ne wr
                    refine wp_region_cls wr (by kernel_rfl) (by kernel_rfl) ?_
                    repeat (go_big_quiet_step ((go_at_call 47; exact Cls.of _ (fun u hu => HKx.out u (HG.out u (HB.out.trans (hu.mono HB.out.size))).2.1))))
                    refine wpQuiet_nil ?_
                    rintro _ ⟨q, rfl⟩
                    have hq3 : Below w3.heap.size w3 q.1 := HB.out.trans (q.2.mono HB.out.size)
                    obtain ⟨wq, eq⟩ : ∃ wq, wq = q.1 := ⟨_, rfl⟩
                    rw [← eq] at hq3 ⊢
                    have HQ3 := hid hq3
                    clear eq hq3 d0 d1 d2
                    go_wp2
                    have e0 : ∀ y : Cls wq, y.1.cell? ⟨g, off + (i + 1) * 2, none⟩ = some (.int .i64 x) := fun y => (HX.out y.1 (HQ3.out.trans (y.2.mono HQ3.out.size))).1
                    have e1 : ∀ y : Cls wq, y.1.cell? ⟨g, off + (i + 1) * 2 + 1, none⟩ = some (.string r) := fun y => (HX.out y.1 (HQ3.out.trans (y.2.mono HQ3.out.size))).2
                    have e2 : ∀ y : Cls wq, y.1.cell? ⟨g, off + i * 2, none⟩ = some (.int .i64 z) := fun y => HX2.out y.1 (HQ3.out.trans (y.2.mono HQ3.out.size))
                    haveI := Cls.ne wq
                    refine wp_region_cls wq (by kernel_rfl) (by kernel_rfl) ?_
                    repeat (go_big_quiet_step ((go_at_call 48; exact Cls.of _ (fun u _ => HV.out u))))
                    refine wpQuiet_nil ?_
                    rintro _ ⟨y, rfl⟩
                    have hy3 : Below w3.heap.size w3 y.1 := HQ3.out.trans (y.2.mono HQ3.out.size)
                    obtain ⟨wy, ey⟩ : ∃ wy, wy = y.1 := ⟨_, rfl⟩
                    rw [← ey] at hy3 ⊢
                    have HY := hid hy3
                    clear ey hy3 e0 e1
                    go_wp2
                    go_roundw
                    case rel => exact ⟨i + 1 + 1, by have := HJ.out; omega, by go_num, HF.out, HY.out⟩
                    case measure => simp [intOf]; omega
                  | false =>
                    have HE : Hid (chkE ep ps c = 16) := hid (by rw [HE1.out, if_pos (okGTo_false ps T L (i + 1 + 1) m (by rw [okGTo_succ, hokj, hV]; simp) (by omega))])
                    rw [hV] at HV
                    clear hall hjl hg ex er eY eV hokj hS hok hj hjm hz hV ez
                    go_wp2
                    haveI := Cls.ne wr
                    refine wp_region_cls wr (by kernel_rfl) (by kernel_rfl) ?_
                    repeat (go_big_quiet_step ((go_at_call 47; exact Cls.of _ (fun u hu => HKx.out u (HG.out u (HB.out.trans (hu.mono HB.out.size))).2.1))))
                    refine wpQuiet_nil ?_
                    rintro _ ⟨q, rfl⟩
                    have hq3 : Below w3.heap.size w3 q.1 := HB.out.trans (q.2.mono HB.out.size)
                    obtain ⟨wq, eq⟩ : ∃ wq, wq = q.1 := ⟨_, rfl⟩
                    rw [← eq] at hq3 ⊢
                    have HQ3 := hid hq3
                    clear eq hq3 d0 d1 d2
                    go_wp2
                    have e0 : ∀ y : Cls wq, y.1.cell? ⟨g, off + (i + 1) * 2, none⟩ = some (.int .i64 x) := fun y => (HX.out y.1 (HQ3.out.trans (y.2.mono HQ3.out.size))).1
                    have e1 : ∀ y : Cls wq, y.1.cell? ⟨g, off + (i + 1) * 2 + 1, none⟩ = some (.string r) := fun y => (HX.out y.1 (HQ3.out.trans (y.2.mono HQ3.out.size))).2
                    have e2 : ∀ y : Cls wq, y.1.cell? ⟨g, off + i * 2, none⟩ = some (.int .i64 z) := fun y => HX2.out y.1 (HQ3.out.trans (y.2.mono HQ3.out.size))
                    haveI := Cls.ne wq
                    refine wp_region_cls wq (by kernel_rfl) (by kernel_rfl) ?_
                    repeat (go_big_quiet_step ((go_at_call 48; exact Cls.of _ (fun u _ => HV.out u))))
                    refine wpQuiet_nil ?_
                    rintro _ ⟨y, rfl⟩
                    have hy3 : Below w3.heap.size w3 y.1 := HQ3.out.trans (y.2.mono HQ3.out.size)
                    obtain ⟨wy, ey⟩ : ∃ wy, wy = y.1 := ⟨_, rfl⟩
                    rw [← ey] at hy3 ⊢
                    have HY := hid hy3
                    clear ey hy3 e0 e1
                    have hres := (HG.out _ HY.out).1
                    have r0 := (cell_two hres).1
                    have r1 := (cell_two hres).2
                    have f0 : wy.frozen? ⟨w.heap.size + 1, 0, none⟩ = false := free_at hres 0
                    have f1 : wy.frozen? ⟨w.heap.size + 1, 1, none⟩ = false := free_at hres 1
                    have HRs := hid hres
                    clear hres
                    go_wp2
                    refine ret_pair (s := 4) (s2 := 5) (ad := ⟨w.heap.size + 1, 0, none⟩) rfl rfl (load_paper _ _ (.int .i64 0) (.slice none 0 0) (cell_two (res_put HRs.out)).1 (cell_two (res_put HRs.out)).2) rfl rfl ?_
                    rw [chkZ, chkP, HE.out]
                    exact ⟨_, rfl, ⟨rfl, .inl ⟨rfl, rfl⟩⟩, (((HG.out _ HY.out).2.2.1).setCell (p := ⟨w.heap.size + 1, 0, none⟩) (Nat.le_succ _) _).setCell (p := ⟨w.heap.size + 1, 1, none⟩) (Nat.le_succ _) _⟩
      · have HE : Hid (chkE ep ps c = 12) := hid (by rw [HE0.out, if_pos hZ])
        clear HE0
        go_enter Try.func19, Try.ntmps19
        go_wp2_with (first
          | (go_at_call 31; refine (HRb.out _ (by exact HP.out.keep H0.out.2.2 (Nat.le_refl _))).mono ?_; rintro e w1 ⟨rfl, hb1⟩; have H1 := hid (And.intro (H0.out.1.keep hb1) (And.intro ((hb1.block _ (lt_of_blk H0.out.2.1)).trans H0.out.2.1) (H0.out.2.2.trans (hb1.mono H0.out.2.2.size)))); clear hb1)
          | (go_at_call 46; refine (HOp.out _).mono ?_; rintro e w2 ⟨v2, u2, rfl, ho2, hs2, hb2⟩
             obtain ⟨ad2, cap2, hv2, _⟩ := own_pairs ho2
             subst hv2
             obtain ⟨ad3, cap3, hu2, hI3⟩ := own_pairs hs2
             subst hu2
             have hb3 : Below w2.heap.size w2 (w2.alloc (.cells #[.int .i64 Z, .slice ad2 P.length cap2] 24)) := (Below.refl _ _).alloc (Nat.le_refl _) _
             have hb13 := hb2.trans (hb3.mono hb2.size)
             have H2 := hid (And.intro (H1.out.1.keep hb13) (And.intro ((hb13.block _ (lt_of_blk H1.out.2.1)).trans H1.out.2.1) (And.intro (H1.out.2.2.trans (hb13.mono H1.out.2.2.size)) (And.intro (show PpAt (w2.alloc (.cells #[.int .i64 Z, .slice ad2 P.length cap2] 24)) w2.heap.size Z (.slice ad2 P.length cap2) 24 from heap_alloc_last w2 _) (And.intro ((ho2.mono (show w.heap.size + 2 ≤ w1.heap.size from lt_of_blk H1.out.2.1)).alloc (.cells #[.int .i64 Z, .slice ad2 P.length cap2] 24)) (And.intro (hI3.keep hb3 (Nat.le_refl _)) (Nat.le_trans (lt_of_blk H1.out.2.1) hb2.size)))))))
             clear ho2 hs2 hb2 hb3 hb13 hI3
             have q0 := H2.out.2.2.2.1.c0
             have q1 := H2.out.1.c0
             have r0 := (cell_two H2.out.2.1).1
             have r1 := (cell_two H2.out.2.1).2
             have f0 : (w2.alloc (.cells #[.int .i64 Z, .slice ad2 P.length cap2] 24)).frozen? ⟨w.heap.size + 1, 0, none⟩ = false := free_at H2.out.2.1 0
             have f1 : (w2.alloc (.cells #[.int .i64 Z, .slice ad2 P.length cap2] 24)).frozen? ⟨w.heap.size + 1, 1, none⟩ = false := free_at H2.out.2.1 1))
        refine ret_pair (s := 4) (s2 := 5) (ad := ⟨w.heap.size + 1, 0, none⟩) rfl rfl (load_paper _ _ (.int .i64 0) (.slice none 0 0) (cell_two (res_put H2.out.2.1)).1 (cell_two (res_put H2.out.2.1)).2) rfl rfl ?_
        rw [chkZ, chkP, HE.out]
        exact ⟨_, rfl, ⟨rfl, .inl ⟨rfl, rfl⟩⟩, ((H2.out.2.2.1).setCell (p := ⟨w.heap.size + 1, 0, none⟩) (Nat.le_succ _) _).setCell (p := ⟨w.heap.size + 1, 1, none⟩) (Nat.le_succ _) _⟩
end Go.Proofs.Ytchlmcpnjpllnaa

/- How far the document walks a chain. -/
namespace Go.Proofs.Ytchlmcpnjpllnaa
open Go.RowKit

/-- How far it goes, where it ends, and why. -/
def walkR (ep : Int) (ps : List (Int × ByteArray)) : List ByteArray → Nat → (Int × List (Int × ByteArray)) × (Nat × Int)
  | [], n => ((ep, ps), (n, 0))
  | c :: cs, n => if chkE ep ps c = 0 then walkR (chkZ ep ps c) (chkP ep ps c) cs (n + 1) else ((ep, ps), (n, chkE ep ps c))
def walkF (ep : Int) (ps : List (Int × ByteArray)) (cs : List ByteArray) : (Int × List (Int × ByteArray)) × (Nat × Int) := if rightP ep ps then walkR ep ps cs 0 else ((0, []), (0, 4))
theorem walkR_nil (ep : Int) (ps : List (Int × ByteArray)) (n : Nat) : walkR ep ps [] n = ((ep, ps), (n, 0)) := rfl
theorem walkR_yes {ep : Int} {ps : List (Int × ByteArray)} {c : ByteArray} (cs : List ByteArray) (n : Nat) (h : chkE ep ps c = 0) : walkR ep ps (c :: cs) n = walkR (chkZ ep ps c) (chkP ep ps c) cs (n + 1) := by rw [walkR, if_pos h]
theorem walkR_no {ep : Int} {ps : List (Int × ByteArray)} {c : ByteArray} (cs : List ByteArray) (n : Nat) (h : ¬ chkE ep ps c = 0) : walkR ep ps (c :: cs) n = ((ep, ps), (n, chkE ep ps c)) := by rw [walkR, if_neg h]
/-- While a chain is walked: the result's block, the paper's block b, its seats elsewhere. -/
structure WkSt (w0 w : World) (b : Nat) (Z : Int) (ad : Option Addr) (n cap : Nat) (P : List (Int × ByteArray)) : Prop where
  res : w.heap[w0.heap.size + 1]? = some (.cells #[.int .i64 0, .slice none 0 0] 24 (0, 0))
  pp : w.heap[b]? = some (.cells #[.int .i64 Z, .slice ad n cap] 24 (0, 0))
  len : P.length = n
  small : n ≤ maxLen
  prs : PairsIn w ad P
  far : ∀ x, ad = some x → x.block ≠ b ∧ x.block ≠ w0.heap.size + 1
  bel : Below w0.heap.size w0 w
  hb : w0.heap.size + 1 < b
theorem WkSt.keep {w0 w w' : World} {b : Nat} {Z : Int} {ad : Option Addr} {n cap : Nat} {P : List (Int × ByteArray)} (h : WkSt w0 w b Z ad n cap P) (hb : Below w.heap.size w w') : WkSt w0 w' b Z ad n cap P :=
  ⟨(hb.block _ (lt_of_blk h.res)).trans h.res, (hb.block _ (lt_of_blk h.pp)).trans h.pp, h.len, h.small, h.prs.keep hb (Nat.le_refl _), h.far, h.bel.trans (hb.mono h.bel.size), h.hb⟩
theorem pairs_put {w : World} {ad : Option Addr} {P : List (Int × ByteArray)} (h : PairsIn w ad P) (r o : Nat) (x : Value) (hne : ∀ y, ad = some y → y.block ≠ r) : PairsIn (w.setCell ⟨r, o, none⟩ x) ad P := by
  rcases h with h | ⟨g, off, ha, hg, hc⟩
  · exact .inl h
  · have hk : ∀ k, (w.setCell ⟨r, o, none⟩ x).cell? ⟨g, k, none⟩ = w.cell? ⟨g, k, none⟩ := fun k => World.cell?_of_block (Below.heap_setCell _ _ _ _ (show g ≠ r from hne ⟨g, off, none⟩ ha))
    refine .inr ⟨g, off, ha, by simpa [World.setCell] using hg, fun j p hp => ⟨(hk _).trans (hc j p hp).1, (hk _).trans (hc j p hp).2⟩⟩
/-- The next paper. -/
theorem WkSt.put {w0 w : World} {b : Nat} {Z Z' : Int} {ad ad' : Option Addr} {n n' cap cap' : Nat} {P P' : List (Int × ByteArray)} (h : WkSt w0 w b Z ad n cap P) (hl : P'.length = n') (hm : n' ≤ maxLen) (hP : PairsIn w ad' P') (hfar : ∀ x, ad' = some x → x.block ≠ b ∧ x.block ≠ w0.heap.size + 1) :
    WkSt w0 ((w.setCell ⟨b, 0, none⟩ (.int .i64 Z')).setCell ⟨b, 1, none⟩ (.slice ad' n' cap')) b Z' ad' n' cap' P' := by
  have hb := h.hb
  refine ⟨?_, res_put h.pp, hl, hm, pairs_put (pairs_put hP _ _ _ (fun y hy => (hfar y hy).1)) _ _ _ (fun y hy => (hfar y hy).1), hfar, (h.bel.setCell (p := ⟨b, 0, none⟩) (by show w0.heap.size ≤ b; omega) _).setCell (p := ⟨b, 1, none⟩) (by show w0.heap.size ≤ b; omega) _, hb⟩
  rw [Below.heap_setCell _ _ _ _ (by show w0.heap.size + 1 ≠ b; omega), Below.heap_setCell _ _ _ _ (by show w0.heap.size + 1 ≠ b; omega)]
  exact h.res
theorem far_of_own {w : World} {B : Nat} {ad : Option Addr} {n cap : Nat} {xs : List Value} {e : TypeId} {z : Nat} (h : w.ownsRow B e z (.slice ad n cap) n xs) : ∀ x, ad = some x → B ≤ x.block := fun x hx => by
  rcases h.2 with ⟨hv, _⟩ | ⟨g, c, cur, hv, hB, _⟩
  · rw [hx] at hv; cases hv
  · rw [hx] at hv; cases hv; exact hB
theorem chkP_len (ep : Int) (ps : List (Int × ByteArray)) (c : ByteArray) : (chkP ep ps c).length ≤ 255 := by
  unfold chkP
  split
  · unfold opP
    split
    · unfold readPL
      split
      · rw [seatsR_len]; have := byteN_lt (oT c) 3; omega
      · exact Nat.zero_le _
    · exact Nat.zero_le _
  · exact Nat.zero_le _

set_option maxRecDepth 100000 in
set_option maxHeartbeats 6400000 in
theorem xwalk_any (ep : Int) (a : Option Addr) (n cap : Nat) (ps : List (Int × ByteArray)) (hn : ps.length = n) (hm : n ≤ maxLen) (ca : Option Addr) (m cc : Nat) (cs : List ByteArray) (hcn : cs.length = m) (hcm : m ≤ maxLen) (hcz : ∀ c, c ∈ cs → c.size ≤ maxLen) (w : World) (hP : PairsIn w a ps) (hC : StrsIn w ca cs) :
    Calls Try.prog 21 #[.agg #[.int .i64 ep, .slice a n cap], .slice ca m cc] w fun e w' => ∃ ad cp, e = .returned (.tuple #[.agg #[.int .i64 (walkF ep ps cs).1.1, .slice ad (walkF ep ps cs).1.2.length cp], .int .i64 ((walkF ep ps cs).2.1 : Int), .int .i64 (walkF ep ps cs).2.2]) ∧ PairsIn w' ad (walkF ep ps cs).1.2 ∧ Below w.heap.size w w' := by
  have hm2 : (m : Int) ≤ 9223372036854775807 := by unfold maxLen at hcm; omega
  have HR : Hid (∀ (b : Bool), rightP ep ps = b → ∀ u : World, PairsIn u a ps → Calls Try.prog 31 #[.agg #[.int .i64 ep, .slice a n cap]] u fun e w' => e = .returned (.bool b) ∧ Below u.heap.size u w') := hid (fun b hb u hu => by rw [← hb]; exact xright_any ep a n cap ps hn hm u hu)
  have H0 : Hid (PpAt ((w.alloc (.cells #[.int .i64 ep, .slice a n cap] 24)).alloc (.cells #[.int .i64 0, .slice none 0 0] 24)) w.heap.size ep (.slice a n cap) 24 ∧ ((w.alloc (.cells #[.int .i64 ep, .slice a n cap] 24)).alloc (.cells #[.int .i64 0, .slice none 0 0] 24)).heap[w.heap.size + 1]? = some (.cells #[.int .i64 0, .slice none 0 0] 24 (0, 0)) ∧ Below w.heap.size w ((w.alloc (.cells #[.int .i64 ep, .slice a n cap] 24)).alloc (.cells #[.int .i64 0, .slice none 0 0] 24))) :=
    hid ⟨(PpAt.new w ep _ _).keep ((Below.refl _ _).alloc (Nat.le_refl _) _), snd_alloc w _ _, ((Below.refl _ _).alloc (Nat.le_refl _) _).alloc (by simp) _⟩
  have HP := hid (And.intro hP (And.intro hn hm))
  have HC := hid (And.intro hC (And.intro hcn hcz))
  clear hP hm hn hC hcn hcm hcz
  cases hr : rightP ep ps with
  | false =>
    rw [show walkF ep ps cs = ((0, []), (0, 4)) by rw [walkF, hr]; rfl]
    have HRb := hid (HR.out false hr)
    clear hr
    go_enter Try.func21, Try.ntmps21
    go_wp2_with (go_at_call 31; refine (HRb.out _ (by exact HP.out.1.keep H0.out.2.2 (Nat.le_refl _))).mono ?_; rintro e w1 ⟨rfl, hb1⟩; have H1 := hid (And.intro ((hb1.block _ (lt_of_blk H0.out.2.1)).trans H0.out.2.1) (H0.out.2.2.trans (hb1.mono H0.out.2.2.size))); clear hb1
                 have r0 := (cell_two H1.out.1).1
                 have r1 := (cell_two H1.out.1).2
                 have f0 : w1.frozen? ⟨w.heap.size + 1, 0, none⟩ = false := free_at H1.out.1 0
                 have f1 : w1.frozen? ⟨w.heap.size + 1, 1, none⟩ = false := free_at H1.out.1 1)
    refine ret_three (s := 4) (s2 := 5) (s3 := 6) (ad := ⟨w.heap.size + 1, 0, none⟩) rfl rfl (load_paper _ _ (.int .i64 0) (.slice none 0 0) (cell_two (res_put H1.out.1)).1 (cell_two (res_put H1.out.1)).2) rfl rfl rfl ?_
    exact ⟨none, 0, rfl, .inl rfl, (H1.out.2.setCell (p := ⟨w.heap.size + 1, 0, none⟩) (Nat.le_succ _) _).setCell (p := ⟨w.heap.size + 1, 1, none⟩) (Nat.le_succ _) _⟩
  | true =>
    have HRb := hid (HR.out true hr)
    have hps := (rightP_parts hr).2.1
    obtain ⟨F, eF⟩ : ∃ F, F = walkF ep ps cs := ⟨_, rfl⟩
    have HF : Hid (walkR ep ps cs 0 = F) := hid (by rw [eF, walkF, hr]; rfl)
    rw [← eF]
    have HFar : Hid (∀ (W : World) (x : Addr), a = some x → x.block < w.heap.size) := hid (fun _ x hx => by
      rcases HP.out.1 with h | ⟨g, off, ha, hg, _⟩
      · rw [h] at hps; simp at hps
      · rw [hx] at ha; cases ha; exact hg)
    clear hr hps eF
    go_enter Try.func21, Try.ntmps21
    go_wp2_with (go_at_call 31; refine (HRb.out _ (by exact HP.out.1.keep H0.out.2.2 (Nat.le_refl _))).mono ?_; rintro e w1 ⟨rfl, hb1⟩; have H1 := hid (And.intro (H0.out.1.keep hb1) (And.intro ((hb1.block _ (lt_of_blk H0.out.2.1)).trans H0.out.2.1) (H0.out.2.2.trans (hb1.mono H0.out.2.2.size)))); clear hb1
                 have q0 := H1.out.1.c0
                 have q1 := H1.out.1.c1)
    have H2 : Hid (WkSt w (w1.alloc (.cells #[.int .i64 ep, .slice a n cap] 24)) w1.heap.size ep a n cap ps) := hid (by
      have hb : Below w1.heap.size w1 (w1.alloc (.cells #[.int .i64 ep, .slice a n cap] 24)) := (Below.refl _ _).alloc (Nat.le_refl _) _
      have hw : Below w.heap.size w (w1.alloc (.cells #[.int .i64 ep, .slice a n cap] 24)) := H1.out.2.2.trans (hb.mono H1.out.2.2.size)
      have h1 := lt_of_blk H1.out.2.1
      exact ⟨(hb.block _ h1).trans H1.out.2.1, heap_alloc_last w1 _, HP.out.2.1, HP.out.2.2, HP.out.1.keep hw (Nat.le_refl _), fun x hx => by have := HFar.out w x hx; omega, hw, h1⟩)
    obtain ⟨b, eb⟩ : ∃ b, b = w1.heap.size := ⟨_, rfl⟩
    obtain ⟨w2, ew⟩ : ∃ w2, w2 = w1.alloc (.cells #[.int .i64 ep, .slice a n cap] 24) := ⟨_, rfl⟩
    rw [← eb, ← ew] at H2
    rw [← eb, ← ew]
    clear q0 q1 eb ew H1 H0 HR HRb HFar
    go_loopw [8] (fun i wr => ∃ (j : Nat) (Z : Int) (ad : Option Addr) (k cp : Nat) (P : List (Int × ByteArray)), j ≤ m ∧ i = .int .i64 (j : Int) ∧ walkR Z P (cs.drop j) j = F ∧ WkSt w wr b Z ad k cp P)
      (fun i _ => ((m : Int) - intOf i).toNat)
    case atStart => exact ⟨0, ep, a, n, cap, ps, by omega, rfl, by rw [List.drop_zero]; exact HF.out, H2.out⟩
    case round =>
      obtain ⟨j, Z, ad, k, cp, P, hj, rfl, hF, hS⟩ := hrel
      have HS := hid hS
      have hj0 : (0 : Int) ≤ (j : Int) := Int.natCast_nonneg _
      have p0 := (cell_two hS.pp).1
      have p1 := (cell_two hS.pp).2
      have r0 := (cell_two hS.res).1
      have r1 := (cell_two hS.res).2
      have f0 : wr.frozen? ⟨w.heap.size + 1, 0, none⟩ = false := free_at hS.res 0
      have f1 : wr.frozen? ⟨w.heap.size + 1, 1, none⟩ = false := free_at hS.res 1
      clear hS H2
      by_cases hjm : j = m
      · have hj1 : ¬ ((j : Int) < (m : Int)) := by omega
        rw [List.drop_of_length_le (by rw [HC.out.2.1]; omega), walkR_nil] at hF
        have HF2 := hid (And.intro hF hjm)
        clear hj hjm hF
        go_wp2
        refine ret_three (s := 4) (s2 := 5) (s3 := 6) (ad := ⟨w.heap.size + 1, 0, none⟩) rfl rfl (load_paper _ _ (.int .i64 Z) (.slice ad k cp) (cell_two (res_put HS.out.res)).1 (cell_two (res_put HS.out.res)).2) rfl rfl rfl ?_
        rw [← HF2.out.1]
        refine ⟨ad, ⟨cp, by rw [HF2.out.2, HS.out.len]; rfl⟩, pairs_put (pairs_put HS.out.prs _ _ _ (fun y hy => (HS.out.far y hy).2)) _ _ _ (fun y hy => (HS.out.far y hy).2), (HS.out.bel.setCell (p := ⟨w.heap.size + 1, 0, none⟩) (Nat.le_succ _) _).setCell (p := ⟨w.heap.size + 1, 1, none⟩) (Nat.le_succ _) _⟩
      · have hj1 : (j : Int) < (m : Int) := by omega
        have hjl : j < cs.length := by rw [HC.out.2.1]; omega
        obtain ⟨c, ec⟩ : ∃ c, cs[j]? = some c := ⟨_, List.getElem?_eq_getElem hjl⟩
        obtain ⟨g, off, rfl, hg, hcc⟩ := HC.out.1.at j c ec
        have hd : cs.drop j = c :: cs.drop (j + 1) := by
          have := List.getElem?_eq_some_iff.1 ec
          rw [← this.2]
          exact List.drop_eq_getElem_cons hjl
        rw [hd] at hF
        have hcz : c.size ≤ maxLen := HC.out.2.2 c (List.mem_of_getElem? ec)
        have HCk : Hid (∀ u : World, PairsIn u ad P → Calls Try.prog 19 #[.agg #[.int .i64 Z, .slice ad k cp], .string c] u fun e w' => ∃ v, e = .returned (.tuple #[.agg #[.int .i64 (chkZ Z P c), v], .int .i64 (chkE Z P c)]) ∧ w'.ownsRow u.heap.size 44 2 v (chkP Z P c).length (pC (chkP Z P c)) ∧ Below u.heap.size u w') := hid (fun u hu => xcheck_any Z ad k cp P HS.out.len HS.out.small c hcz u hu)
        have hPl := chkP_len Z P c
        have HD0 : Hid (∀ u : World, Below wr.heap.size wr u → u.cell? ⟨b, 0, none⟩ = some (.int .i64 Z)) := hid (fun u hu => (cell_two (HS.out.keep hu).pp).1)
        have HD1 : Hid (∀ u : World, Below wr.heap.size wr u → u.cell? ⟨b, 1, none⟩ = some (.slice ad k cp)) := hid (fun u hu => (cell_two (HS.out.keep hu).pp).2)
        have HDc : Hid (∀ u : World, Below wr.heap.size wr u → u.cell? ⟨g, off + j, none⟩ = some (.string c)) := hid (fun u hu => ((HS.out.keep hu).bel.cell (p := ⟨g, off + j, none⟩) hg).trans hcc)
        have HSW := hid (show Below wr.heap.size wr wr.drew from (Below.refl _ _).drew)
        have HPr0 : Hid (PairsIn wr.drew ad P) := hid (HS.out.keep HSW.out).prs
        have HSV := hid (show Below wr.heap.size wr (wr.alloc (.cells #[.int .i64 0, .slice none 0 0] 24)).drew from ((Below.refl _ _).alloc (Nat.le_refl _) _).drew)
        have HPr1 : Hid (PairsIn (wr.alloc (.cells #[.int .i64 0, .slice none 0 0] 24)).drew ad P) := hid (HS.out.keep HSV.out).prs
        have cr := HDc.out wr (Below.refl _ _)
        obtain ⟨E, eE⟩ : ∃ E, E = chkE Z P c := ⟨_, rfl⟩
        have HWy : Hid (E = 0 → walkR (chkZ Z P c) (chkP Z P c) (cs.drop (j + 1)) (j + 1) = F) := hid (fun h => by rw [← hF, walkR_yes _ _ (by rw [← eE]; exact h)])
        have HWn : Hid (¬ E = 0 → F = ((Z, P), (j, E))) := hid (fun h => by rw [← hF, walkR_no _ _ (by rw [← eE]; exact h), eE])
        rw [← eE] at HCk
        generalize chkZ Z P c = Z' at HCk HWy
        generalize chkP Z P c = P' at HCk HWy hPl
        have HJ := hid (And.intro hj (And.intro hjm hPl))
        clear hj hjm hjl ec hg hcc hd hF hcz eE hPl
        by_cases hE : E = 0
        · have hEb : (E != 0) = false := by simp [hE]
          have HE0 := hid hE
          clear hE
          go_wp2
          have a0 : ∀ o : Obj, (wr.alloc o).cell? ⟨b, 0, none⟩ = some (.int .i64 Z) := fun o => HD0.out _ ((Below.refl _ _).alloc (Nat.le_refl _) o)
          have a1 : ∀ o : Obj, (wr.alloc o).cell? ⟨b, 1, none⟩ = some (.slice ad k cp) := fun o => HD1.out _ ((Below.refl _ _).alloc (Nat.le_refl _) o)
          have a2 : ∀ o : Obj, (wr.alloc o).cell? ⟨g, off + j, none⟩ = some (.string c) := fun o => HDc.out _ ((Below.refl _ _).alloc (Nat.le_refl _) o)
          go_region_with (go_at_call 19; refine (HCk.out _ (by first | exact HPr0.out | exact HPr1.out)).mono ?_; rintro e w5 ⟨v5, rfl, ho5, hb5⟩
                          obtain ⟨ad5, cap5, hv5, hI5⟩ := own_pairs ho5
                          subst hv5
                          have hb6 : Below wr.heap.size wr w5 := (by first | exact HSW.out.trans (hb5.mono (Nat.le_refl _)) | exact HSV.out.trans (hb5.mono HSV.out.size))
                          have H5 := hid hb6
                          first
                            | (have zq : w5.heap[wr.heap.size]? = some (.cells #[.int .i64 0, .slice none 0 0] 24 (0, 0)) := (hb5.block _ (by simp)).trans (heap_alloc_last wr _)
                               have z0 := (cell_two zq).1
                               have z1 := (cell_two zq).2
                               have y0 : w5.frozen? ⟨wr.heap.size, 0, none⟩ = false := free_at zq 0
                               have y1 : w5.frozen? ⟨wr.heap.size, 1, none⟩ = false := free_at zq 1
                               have HZq := hid zq
                               clear zq)
                            | skip
                          have HO5 := hid (And.intro hI5 (far_of_own ho5))
                          clear ho5 hb5 hI5 hb6)
          all_goals
            first
              | (have H6 : Hid (Below wr.heap.size wr (w5.alloc (.cells #[.int .i64 Z', .slice ad5 P'.length cap5] 24)) ∧ (w5.alloc (.cells #[.int .i64 Z', .slice ad5 P'.length cap5] 24)).heap[w5.heap.size]? = some (.cells #[.int .i64 Z', .slice ad5 P'.length cap5] 24 (0, 0)) ∧ PairsIn (w5.alloc (.cells #[.int .i64 Z', .slice ad5 P'.length cap5] 24)) ad5 P' ∧ ∀ x : Addr, ad5 = some x → wr.heap.size ≤ x.block) := hid ⟨H5.out.alloc H5.out.size _, heap_alloc_last w5 _, HO5.out.1.keep ((Below.refl _ _).alloc (Nat.le_refl _) _) (Nat.le_refl _), fun x hx => by exact HO5.out.2 x hx⟩
                 generalize hq : w5.heap.size = Qb at H6 ⊢
                 generalize hw6 : w5.alloc (.cells #[.int .i64 Z', .slice ad5 P'.length cap5] 24) = w6 at H6 ⊢
                 clear hq hw6 H5 HO5)
              | (have H6 : Hid (Below wr.heap.size wr ((w5.setCell ⟨wr.heap.size, 0, none⟩ (.int .i64 Z')).setCell ⟨wr.heap.size, 1, none⟩ (.slice ad5 P'.length cap5)) ∧ ((w5.setCell ⟨wr.heap.size, 0, none⟩ (.int .i64 Z')).setCell ⟨wr.heap.size, 1, none⟩ (.slice ad5 P'.length cap5)).heap[wr.heap.size]? = some (.cells #[.int .i64 Z', .slice ad5 P'.length cap5] 24 (0, 0)) ∧ PairsIn ((w5.setCell ⟨wr.heap.size, 0, none⟩ (.int .i64 Z')).setCell ⟨wr.heap.size, 1, none⟩ (.slice ad5 P'.length cap5)) ad5 P' ∧ ∀ x : Addr, ad5 = some x → wr.heap.size ≤ x.block) := hid (by
                   have hx : ∀ x : Addr, ad5 = some x → wr.heap.size + 1 ≤ x.block := fun x hx => by have := HO5.out.2 x hx; simpa using this
                   exact ⟨(H5.out.setCell (p := ⟨wr.heap.size, 0, none⟩) (Nat.le_refl _) _).setCell (p := ⟨wr.heap.size, 1, none⟩) (Nat.le_refl _) _, res_put HZq.out, pairs_put (pairs_put HO5.out.1 _ _ _ (fun y hy => by have := hx y hy; omega)) _ _ _ (fun y hy => by have := hx y hy; omega), fun x h => by have := hx x h; omega⟩)
                 clear z0 z1 y0 y1
                 generalize hw6 : (w5.setCell ⟨wr.heap.size, 0, none⟩ (.int .i64 Z')).setCell ⟨wr.heap.size, 1, none⟩ (.slice ad5 P'.length cap5) = w6 at H6 ⊢
                 obtain ⟨Qb, hq⟩ : ∃ Qb, Qb = wr.heap.size := ⟨_, rfl⟩
                 rw [← hq] at H6 ⊢
                 rw [hq] at H6
                 clear hw6 H5 HO5 HZq)
            have q0 := (cell_two H6.out.2.1).1
            have q1 := (cell_two H6.out.2.1).2
            have HS6 := hid (HS.out.keep H6.out.1)
            have b0 := (cell_two HS6.out.pp).1
            have b1 := (cell_two HS6.out.pp).2
            have g0 : w6.frozen? ⟨b, 0, none⟩ = false := free_at HS6.out.pp 0
            have g1 : w6.frozen? ⟨b, 1, none⟩ = false := free_at HS6.out.pp 1
            have s0 := (cell_two HS6.out.res).1
            have s1 := (cell_two HS6.out.res).2
            have t0 : w6.frozen? ⟨w.heap.size + 1, 0, none⟩ = false := free_at HS6.out.res 0
            have t1 : w6.frozen? ⟨w.heap.size + 1, 1, none⟩ = false := free_at HS6.out.res 1
            go_wp2
            go_roundw
            case rel => exact ⟨j + 1, Z', ad5, P'.length, cap5, P', by have := HJ.out; omega, by go_num, HWy.out HE0.out, HS6.out.put rfl (by have := HJ.out.2.2; unfold maxLen; omega) H6.out.2.2.1 (fun x hx => by have h1 := H6.out.2.2.2 x hx; have h2 := lt_of_blk HS.out.pp; have h3 := lt_of_blk HS.out.res; omega)⟩
            case measure => simp [intOf]; omega

        · have hEb : (E != 0) = true := by simpa using hE
          have HE0 := hid hE
          clear hE
          go_wp2
          have a0 : ∀ o : Obj, (wr.alloc o).cell? ⟨b, 0, none⟩ = some (.int .i64 Z) := fun o => HD0.out _ ((Below.refl _ _).alloc (Nat.le_refl _) o)
          have a1 : ∀ o : Obj, (wr.alloc o).cell? ⟨b, 1, none⟩ = some (.slice ad k cp) := fun o => HD1.out _ ((Below.refl _ _).alloc (Nat.le_refl _) o)
          have a2 : ∀ o : Obj, (wr.alloc o).cell? ⟨g, off + j, none⟩ = some (.string c) := fun o => HDc.out _ ((Below.refl _ _).alloc (Nat.le_refl _) o)
          go_region_with (go_at_call 19; refine (HCk.out _ (by first | exact HPr0.out | exact HPr1.out)).mono ?_; rintro e w5 ⟨v5, rfl, ho5, hb5⟩
                          obtain ⟨ad5, cap5, hv5, hI5⟩ := own_pairs ho5
                          subst hv5
                          have hb6 : Below wr.heap.size wr w5 := (by first | exact HSW.out.trans (hb5.mono (Nat.le_refl _)) | exact HSV.out.trans (hb5.mono HSV.out.size))
                          have H5 := hid hb6
                          first
                            | (have zq : w5.heap[wr.heap.size]? = some (.cells #[.int .i64 0, .slice none 0 0] 24 (0, 0)) := (hb5.block _ (by simp)).trans (heap_alloc_last wr _)
                               have z0 := (cell_two zq).1
                               have z1 := (cell_two zq).2
                               have y0 : w5.frozen? ⟨wr.heap.size, 0, none⟩ = false := free_at zq 0
                               have y1 : w5.frozen? ⟨wr.heap.size, 1, none⟩ = false := free_at zq 1
                               have HZq := hid zq
                               clear zq)
                            | skip
                          have HO5 := hid (And.intro hI5 (far_of_own ho5))
                          clear ho5 hb5 hI5 hb6)
          all_goals
            first
              | (have H6 : Hid (Below wr.heap.size wr (w5.alloc (.cells #[.int .i64 Z', .slice ad5 P'.length cap5] 24)) ∧ (w5.alloc (.cells #[.int .i64 Z', .slice ad5 P'.length cap5] 24)).heap[w5.heap.size]? = some (.cells #[.int .i64 Z', .slice ad5 P'.length cap5] 24 (0, 0)) ∧ PairsIn (w5.alloc (.cells #[.int .i64 Z', .slice ad5 P'.length cap5] 24)) ad5 P' ∧ ∀ x : Addr, ad5 = some x → wr.heap.size ≤ x.block) := hid ⟨H5.out.alloc H5.out.size _, heap_alloc_last w5 _, HO5.out.1.keep ((Below.refl _ _).alloc (Nat.le_refl _) _) (Nat.le_refl _), fun x hx => by exact HO5.out.2 x hx⟩
                 generalize hq : w5.heap.size = Qb at H6 ⊢
                 generalize hw6 : w5.alloc (.cells #[.int .i64 Z', .slice ad5 P'.length cap5] 24) = w6 at H6 ⊢
                 clear hq hw6 H5 HO5)
              | (have H6 : Hid (Below wr.heap.size wr ((w5.setCell ⟨wr.heap.size, 0, none⟩ (.int .i64 Z')).setCell ⟨wr.heap.size, 1, none⟩ (.slice ad5 P'.length cap5)) ∧ ((w5.setCell ⟨wr.heap.size, 0, none⟩ (.int .i64 Z')).setCell ⟨wr.heap.size, 1, none⟩ (.slice ad5 P'.length cap5)).heap[wr.heap.size]? = some (.cells #[.int .i64 Z', .slice ad5 P'.length cap5] 24 (0, 0)) ∧ PairsIn ((w5.setCell ⟨wr.heap.size, 0, none⟩ (.int .i64 Z')).setCell ⟨wr.heap.size, 1, none⟩ (.slice ad5 P'.length cap5)) ad5 P' ∧ ∀ x : Addr, ad5 = some x → wr.heap.size ≤ x.block) := hid (by
                   have hx : ∀ x : Addr, ad5 = some x → wr.heap.size + 1 ≤ x.block := fun x hx => by have := HO5.out.2 x hx; simpa using this
                   exact ⟨(H5.out.setCell (p := ⟨wr.heap.size, 0, none⟩) (Nat.le_refl _) _).setCell (p := ⟨wr.heap.size, 1, none⟩) (Nat.le_refl _) _, res_put HZq.out, pairs_put (pairs_put HO5.out.1 _ _ _ (fun y hy => by have := hx y hy; omega)) _ _ _ (fun y hy => by have := hx y hy; omega), fun x h => by have := hx x h; omega⟩)
                 clear z0 z1 y0 y1
                 generalize hw6 : (w5.setCell ⟨wr.heap.size, 0, none⟩ (.int .i64 Z')).setCell ⟨wr.heap.size, 1, none⟩ (.slice ad5 P'.length cap5) = w6 at H6 ⊢
                 obtain ⟨Qb, hq⟩ : ∃ Qb, Qb = wr.heap.size := ⟨_, rfl⟩
                 rw [← hq] at H6 ⊢
                 rw [hq] at H6
                 clear hw6 H5 HO5 HZq)
            have q0 := (cell_two H6.out.2.1).1
            have q1 := (cell_two H6.out.2.1).2
            have HS6 := hid (HS.out.keep H6.out.1)
            have b0 := (cell_two HS6.out.pp).1
            have b1 := (cell_two HS6.out.pp).2
            have g0 : w6.frozen? ⟨b, 0, none⟩ = false := free_at HS6.out.pp 0
            have g1 : w6.frozen? ⟨b, 1, none⟩ = false := free_at HS6.out.pp 1
            have s0 := (cell_two HS6.out.res).1
            have s1 := (cell_two HS6.out.res).2
            have t0 : w6.frozen? ⟨w.heap.size + 1, 0, none⟩ = false := free_at HS6.out.res 0
            have t1 : w6.frozen? ⟨w.heap.size + 1, 1, none⟩ = false := free_at HS6.out.res 1
            go_wp2
            refine ret_three (s := 4) (s2 := 5) (s3 := 6) (ad := ⟨w.heap.size + 1, 0, none⟩) rfl rfl (load_paper _ _ (.int .i64 Z) (.slice ad k cp) (cell_two (res_put HS6.out.res)).1 (cell_two (res_put HS6.out.res)).2) rfl rfl rfl ?_
            rw [HWn.out HE0.out]
            exact ⟨ad, cp, by rw [HS6.out.len]; rfl, pairs_put (pairs_put HS6.out.prs _ _ _ (fun y hy => (HS6.out.far y hy).2)) _ _ _ (fun y hy => (HS6.out.far y hy).2), (HS6.out.bel.setCell (p := ⟨w.heap.size + 1, 0, none⟩) (Nat.le_succ _) _).setCell (p := ⟨w.heap.size + 1, 1, none⟩) (Nat.le_succ _) _⟩
end Go.Proofs.Ytchlmcpnjpllnaa

/- The contracts of package pack's writers of eight bytes and of texts. -/
namespace Go.Proofs.Ytchlmcpnjpllnaa
open Go.RowKit

/-- 'append(b, s...)' of a string onto a slice of bytes that the call owns: where the new slice lies. -/
theorem append_str (w : World) (base : Nat) (ty : TypeId) (i : TypeInfo) (hi : Try.prog.info? 5 = some i) (hz : i.zero = some (.int .u8 0)) (hsize : i.size = 1) (hby : i.bytes = 1)
    (v : Value) (n : Nat) (xs : List Value) (hown : w.ownsRow base 5 1 v n xs) (s : ByteArray) (hbytes : n + s.size ≤ 140737488355328) (hbase : base ≤ w.heap.size) :
    ∃ v' w', (Builtin.append_ #[57, 9] ty #[v, .string s]).run Try.prog w = .ok v' w' ∧ w'.ownsRow base 5 1 v' (n + s.size) (xs ++ bC s.data.toList) ∧ w.grownBy w' v.ownBlock ∧ (v'.ownBlock = v.ownBlock ∨ v'.ownBlock = some w.heap.size) := by
  obtain ⟨v', w', hr, h2, h3, h4⟩ := Lib.run_append_own_string (P := Try.prog) w base 57 9 ty 5 i Try.underlying57 Try.underlying9 hi hz hsize hby v n xs hown s (by unfold maxLen; omega) hbytes hbase
  refine ⟨v', w', hr, h2, h3, ?_⟩
  have hsrc := Src.ofString (P := Try.prog) w (tx := 9) Try.underlying9 s
  rcases hown.2 with ⟨rfl, rfl⟩ | ⟨g, cap, cur, rfl, hbg, hg, hnc, hcm, hcs, htake⟩
  · by_cases h0 : s.size = 0
    · have := h4.2 ⟨rfl, h0⟩
      subst this
      exact .inl rfl
    · have hgr := run_append_grow_src (P := Try.prog) w 57 9 ty 5 i (.int .u8 0) Try.underlying57 hi hz none 0 0 [] (by simpa using run_firstCells_none w.drew i.size 0 0 0) (.string s) s.size (byteCells s) (by rw [hsize]; exact hsrc) (by omega) (by omega) (by
        rw [hby, Nat.zero_add, nextslicecap_zero (by omega)]; omega)
      rw [hr] at hgr
      cases hgr
      exact .inr rfl
  · by_cases hroom : n + s.size ≤ cap
    · have hcz : cur.size = cap := by simpa using hcs
      have hrm := run_append_room_src (P := Try.prog) w 57 9 ty 5 i Try.underlying57 hi g 0 n cap (.string s) s.size (byteCells s) (by rw [hsize]; exact hsrc) hroom
        (fun j hj => by rw [byteCells_length] at hj; rw [hsize]; simp [World.cell?, hg]; omega) (fun j hj => by simp [World.frozen?, hg])
      rw [hr] at hrm
      cases hrm
      exact .inl rfl
    · have hgr := run_append_grow_src (P := Try.prog) w 57 9 ty 5 i (.int .u8 0) Try.underlying57 hi hz (some ⟨g, 0, none⟩) n cap xs
        (by rw [hsize]; exact run_firstCells_some w.drew 1 n ⟨g, 0, none⟩ n cap xs hown.1 (fun j u hj => hown.cells (g := g) rfl j u hj)) (.string s) s.size (byteCells s) (by rw [hsize]; exact hsrc) (by omega) (by omega) (by
        rw [hby]
        have := nextslicecap_le (need := n + s.size) (old := cap) (by omega)
        omega)
      rw [hr] at hgr
      cases hgr
      exact .inr rfl

theorem wpList_append_str (w : World) {ops : Array Oper} {rest : List Oper} {o : Oper} {a : Act} {Q : Exit → Act → World → Prop} (hgd : o.guard = none) (sl x : Operand)
    (ho : o.op = .call { callee := .builtin .append, args := #[sl, x], argTypes := #[57, 9] })
    (base : Nat) (i : TypeInfo) (hi : Try.prog.info? 5 = some i) (hz : i.zero = some (.int .u8 0)) (hsize : i.size = 1) (hby : i.bytes = 1)
    (v : Value) (n : Nat) (xs : List Value) (hs : a.eval sl = v) (hown : w.ownsRow base 5 1 v n xs) (s : ByteArray) (hx : a.eval x = .string s)
    (hbytes : n + s.size ≤ 140737488355328) (hbase : base ≤ w.heap.size)
    (h : ∀ v' w', w'.ownsRow base 5 1 v' (n + s.size) (xs ++ bC s.data.toList) → w.grownBy w' v.ownBlock → (v'.ownBlock = v.ownBlock ∨ v'.ownBlock = some w.heap.size) → wpList Try.prog ops Q rest (a.put o.dst v') w') : wpList Try.prog ops Q (o :: rest) a w := by
  refine wpList_plain hgd fun K hK => ?_
  obtain ⟨v', w', hr, h2, h3, h4⟩ := append_str w base o.type i hi hz hsize hby v n xs hown s hbytes hbase
  unfold Oper.wp execOp
  simp only [ho, resolve, invoke, builtin, Sem.run_bind, Sem.run_pure, Result.andThen_ok, List.map_toArray, List.map_cons, List.map_nil, hs, hx, hr]
  exact hK _ _ (h v' w' h2 h3 h4)

/-- The error behind eight bytes; the bytes. -/
def bE (lim : Int) (l : List UInt8) (er : Int) : Int := adm lim l.length er true 8
def bL (lim : Int) (l : List UInt8) (er : Int) (n : Nat) : List UInt8 := if bE lim l er = 0 then l ++ be 8 n else l

/-- The error behind a text; the bytes. -/
def xE (lim : Int) (l : List UInt8) (er : Int) (s : ByteArray) : Int := adm lim l.length er (decide (s.size ≤ 65535)) (2 + s.size)
def xL (lim : Int) (l : List UInt8) (er : Int) (s : ByteArray) : List UInt8 := if xE lim l er s = 0 then l ++ (be 2 s.size ++ s.data.toList) else l

theorem put_text {w1 w2 : World} {b : Nat} {v v' : Value} {lim : Int} {L : List UInt8} {er : Int} {s : ByteArray} (hR : WrAt w1 b v lim L er)
    (hown : w2.ownsRow (b + 1) 5 1 v' (L.length + s.size) (bC L ++ bC s.data.toList)) (hgrow : w1.grownBy w2 v.ownBlock) (hat : v'.ownBlock = v.ownBlock ∨ v'.ownBlock = some w1.heap.size) :
    WrAt (w2.setCell ⟨b, 1, none⟩ v') b v' lim (L ++ s.data.toList) er ∧ Kept b v.ownBlock w1 (w2.setCell ⟨b, 1, none⟩ v') ∧ Moved w1 v v' := by
  have hbv : some b ≠ v.ownBlock := fun e => by have := (hR.own.lt b e.symm).1; omega
  have hb1 : w2.heap[b]? = some (.cells #[.int .i64 lim, v, .int .i64 er] 97 (0, 0)) := by
    rw [hgrow.block b hR.lt hbv]
    exact hR.blk
  refine ⟨WrAt.bytes hb1 ?_, ?_, ?_⟩
  · rw [bC_app, List.length_append, Array.length_toList]; exact hown
  · exact ((Kept.refl b v.ownBlock w1).grown hgrow (.inl rfl)).setCell _ _
  · rcases hat with h | h
    · exact .inl h
    · exact .inr ⟨_, h, Nat.le_refl _⟩

set_option maxRecDepth 100000 in
set_option maxHeartbeats 1600000 in
theorem wtext_yes (b : Nat) (v : Value) (lim : Int) (l : List UInt8) (er : Int) (s : ByteArray) (w : World) (h : WrAt w b v lim l er)
    (h0 : 0 ≤ lim) (h1 : lim ≤ 9223372036854775807) (hs : s.size ≤ 65535) (hl : l.length + 8 ≤ 140737488355328) (hl2 : l.length + (2 + s.size) ≤ 140737488355328) (hd : adm lim l.length er true (2 + s.size) = 0) :
    Calls Try.prog 41 #[.pointer (some ⟨b, 0, none⟩), .string s] w fun e w' => e = .returned (.tuple #[]) ∧ ∃ v', WrAt w' b v' lim (l ++ (be 2 s.size ++ s.data.toList)) 0 ∧ Kept b v.ownBlock w w' ∧ Moved w v v' := by
  obtain ⟨i0, hi0, hz0, hz1, hz2⟩ := info_parts Try.info5
  have ha := admits_any b v lim l er true (2 + s.size) w h h0 h1 (by omega)
  have hdd : decide (adm lim l.length er true (2 + s.size) = 0) = true := by simpa using hd
  rw [hdd, hd] at ha
  have HA := hid ha
  have HL := hid hl
  have HL2 := hid hl2
  have hsi : (s.size : Int) ≤ 65535 := by omega
  clear ha h hd hdd hl hl2 h0 h1 hs
  go_enter Try.func41, Try.ntmps41
  go_wp2_with fail
  refine HA.out.mono ?_
  rintro e w1 ⟨rfl, hr, hk⟩
  have HR := hid hr
  have HK := hid hk
  clear hr hk
  go_wp2_with fail
  refine (put_any b v lim l 0 s.size 2 w1 HR.out (by omega) (by omega) HL.out).mono ?_
  rintro e w2 ⟨rfl, v2, hv, hk2, hm⟩
  have HV := hid hv
  have HK2 := hid (And.intro ((kept_none HK.out).trans hk2 (.inl rfl)) ((Moved.refl w v).trans hm HK.out.size))
  have c1 := hv.c1
  have f1 := hv.fr 1
  have hlt := hv.lt
  have hbv : some b ≠ v2.ownBlock := fun e => by have := (hv.own.lt b e.symm).1; omega
  have ho := hv.own
  have hb2 : (l ++ be 2 s.size).length + s.size ≤ 140737488355328 := by rw [List.length_append, be_len]; have := HL2.out; omega
  clear hv hk2 hm
  go_wp2_with (at_builtin; refine wpList_append_str _ rfl _ _ rfl (b + 1) i0 hi0 hz0 hz1 hz2 v2 (l ++ be 2 s.size).length (bC (l ++ be 2 s.size)) rfl ho s rfl hb2 (by omega) ?_)
  intro v3 w3 hown3 hgrow hat
  rw [← List.length_append] at hown3
  have HS := hid (put_text HV.out hown3 hgrow hat)
  have cz : w3.cell? ⟨b, 1, none⟩ = some v2 := (hgrow.cell_far ⟨b, 1, none⟩ hlt hbv).trans c1
  have fz : w3.frozen? ⟨b, 1, none⟩ = false := (hgrow.frozen_far ⟨b, 1, none⟩ hlt hbv).trans f1
  obtain ⟨av, nv, capv, hv3⟩ : ∃ av nv capv, v3 = .slice av nv capv := by
    rcases hown3.2 with ⟨hv, _⟩ | ⟨g, cap, cur, hv, _⟩
    · exact ⟨_, _, _, hv⟩
    · exact ⟨_, _, _, hv⟩
  rw [hv3] at HS ⊢
  clear hown3 hgrow hat ho hv3
  go_wp2
  go_end0
  refine ⟨rfl, _, ?_, HK2.out.1.trans HS.out.2.1 HK2.out.2, HK2.out.2.trans HS.out.2.2 HK2.out.1.size⟩
  rw [← List.append_assoc]
  exact HS.out.1

set_option maxHeartbeats 800000 in
theorem wtext_no (b : Nat) (v : Value) (lim : Int) (l : List UInt8) (er : Int) (s : ByteArray) (w : World) (h : WrAt w b v lim l er)
    (h0 : 0 ≤ lim) (h1 : lim ≤ 9223372036854775807) (hs : s.size ≤ 9223372036854775805) (hl : l.length + 8 ≤ 140737488355328) (E : Int) (r : Bool) (hr : decide ((s.size : Int) ≤ 65535) = r) (hE : adm lim l.length er r (2 + s.size) = E) (hd : E ≠ 0) :
    Calls Try.prog 41 #[.pointer (some ⟨b, 0, none⟩), .string s] w fun e w' => e = .returned (.tuple #[]) ∧ ∃ v', WrAt w' b v' lim l E ∧ Kept b v.ownBlock w w' ∧ Moved w v v' := by
  have ha := admits_any b v lim l er r (2 + s.size) w h h0 h1 (by omega)
  have hdd : decide (E = 0) = false := by simpa using hd
  rw [hE, hdd] at ha
  have HA := hid ha
  clear ha h hE hd hdd hl h0 h1
  go_enter Try.func41, Try.ntmps41
  go_wp2_with fail
  refine HA.out.mono ?_
  rintro e w1 ⟨rfl, hr, hk⟩
  have HR := hid hr
  have HK := hid hk
  clear hr hk
  go_wp2
  go_end0
  exact ⟨rfl, v, HR.out, kept_none HK.out, Moved.refl _ _⟩

theorem wtext_any (b : Nat) (v : Value) (lim : Int) (l : List UInt8) (er : Int) (s : ByteArray) (w : World) (h : WrAt w b v lim l er)
    (h0 : 0 ≤ lim) (h1 : lim ≤ 9223372036854775807) (hs : s.size ≤ 9223372036854775805) (hl : l.length + 8 ≤ 140737488355328) (hl2 : xE lim l er s = 0 → l.length + (2 + s.size) ≤ 140737488355328) :
    Calls Try.prog 41 #[.pointer (some ⟨b, 0, none⟩), .string s] w fun e w' => e = .returned (.tuple #[]) ∧ ∃ v', WrAt w' b v' lim (xL lim l er s) (xE lim l er s) ∧ Kept b v.ownBlock w w' ∧ Moved w v v' := by
  unfold xL
  by_cases hd : xE lim l er s = 0
  · have hs2 : s.size ≤ 65535 := by
      by_cases h2 : s.size ≤ 65535
      · exact h2
      · exfalso
        unfold xE adm at hd
        simp [h2] at hd
        split at hd <;> simp_all
    have hd2 : adm lim l.length er true (2 + s.size) = 0 := by
      unfold xE at hd
      simpa [hs2] using hd
    rw [if_pos hd, hd]
    exact wtext_yes b v lim l er s w h h0 h1 hs2 hl (hl2 hd) hd2
  · rw [if_neg hd]
    exact wtext_no b v lim l er s w h h0 h1 hs hl _ (decide (s.size ≤ 65535)) (by simp; omega) rfl hd

end Go.Proofs.Ytchlmcpnjpllnaa

/- The contracts of the document's writer: texts. -/
namespace Go.Proofs.Ytchlmcpnjpllnaa
open Go.RowKit

set_option maxRecDepth 100000 in
set_option maxHeartbeats 1600000 in
theorem mtext_in (c : Nat) (v : Value) (lim : Int) (l : List UInt8) (er : Int) (s : ByteArray) (w : World) (h : MwAt w c v lim l er)
    (h0 : 0 ≤ lim) (h1 : lim ≤ 9223372036854775807) (hl : l.length + (s.size + 10) ≤ 140737488355328) (hs : s.size ≤ 65535) (E : Int) (hE : adm lim l.length er true (2 + s.size : Nat) = E) (L : List UInt8) (hL : (if E = 0 then l ++ (be 2 s.size ++ s.data.toList) else l) = L) :
    Calls Try.prog 42 #[.pointer (some ⟨c, 0, none⟩), .string s] w fun e w' => e = .returned (.tuple #[]) ∧ ∃ v', MwAt w' c v' lim L E ∧ Kept c v.ownBlock w w' ∧ Moved w v v' := by
  obtain ⟨i0, hi0, hz0, hz1, hz2⟩ := info_parts Try.info5
  have HH := hid h
  have HC := hid (big_any s.size 2 w (by omega) (by omega))
  have HL := hid hL
  have HE := hid hE
  have hsi : (s.size : Int) ≤ 65535 := by omega
  have hd : s.data.toList.length = s.size := by rw [Array.length_toList]; rfl
  have HD := hid hd
  clear h hL hE hd hs
  go_enter Try.func42, Try.ntmps42
  go_wp2_with fail
  refine HC.out.mono ?_
  rintro e w1 ⟨rfl, hb1, hbel⟩
  have ho : w1.ownsRow w.heap.size 5 1 (.slice (some ⟨w.heap.size, 0, none⟩) 2 2) 2 (bC (be 2 s.size)) :=
    ⟨by rw [bC_len, be_len], .inr ⟨w.heap.size, 2, _, rfl, Nat.le_refl _, hb1, Nat.le_refl _, by decide, by simp [bC_len, be_len], by rw [List.toList_toArray, List.take_of_length_le (by rw [bC_len, be_len]; decide)]⟩⟩
  have HB := hid hbel
  have hz := hbel.size
  clear hb1 hbel
  go_wp2_with (at_builtin; refine wpList_append_str _ rfl _ _ rfl w.heap.size i0 hi0 hz0 hz1 hz2 _ 2 (bC (be 2 s.size)) rfl ho s rfl (by omega) hz ?_)
  intro v2 w2 hown2 hgrow hat
  obtain ⟨g, cap, hv2, hg2, -⟩ := hown2.form (by omega)
  have hbel2 : Below w.heap.size w w2 := HB.out.grown hgrow hz (fun k hk => by simp [Value.ownBlock] at hk; omega)
  have hsrc : ∀ j u, (bC (be 2 s.size ++ s.data.toList))[j]? = some u → w2.cell? ⟨g, j, none⟩ = some u := by
    intro j u hj
    rw [bC_app] at hj
    have := hown2.cells (g := g) (by rw [hv2]; rfl) j u hj
    rwa [Addr.add_lit, Nat.zero_add] at this
  have HP := hid (mput_len c v lim l er g cap (be 2 s.size ++ s.data.toList) (2 + s.size) (by rw [List.length_append, be_len, HD.out]) w2 (HH.out.above hbel2) h0 h1 (by omega) hsrc)
  rw [HE.out, HL.out] at HP
  have HK := hid (show Kept c v.ownBlock w w2 from ⟨hbel2.os, hbel2.tape, hbel2.output, hbel2.size, fun j hj _ _ => hbel2.block j hj⟩)
  rw [hv2]
  clear hown2 hgrow hat hbel2 hsrc hv2 ho
  go_wp2_with fail
  refine HP.out.mono ?_
  rintro e w3 ⟨rfl, v3, hx3, hk3, hm3⟩
  have H3 := hid (And.intro hx3 (And.intro (HK.out.trans hk3 (.inl rfl)) ((Moved.refl w v).trans hm3 HK.out.size)))
  clear hx3 hk3 hm3
  go_wp2
  go_end0
  exact ⟨rfl, v3, H3.out⟩

set_option maxHeartbeats 800000 in
theorem mtext_out (c : Nat) (v : Value) (lim : Int) (l : List UInt8) (er : Int) (s : ByteArray) (w : World) (h : MwAt w c v lim l er) (hs : (65535 : Int) < s.size) (E : Int) (hE : adm lim l.length er false (2 + s.size) = E) :
    Calls Try.prog 42 #[.pointer (some ⟨c, 0, none⟩), .string s] w fun e w' => e = .returned (.tuple #[]) ∧ ∃ v', MwAt w' c v' lim l E ∧ Kept c v.ownBlock w w' ∧ Moved w v v' := by
  have HC := hid (mput_bad c v lim l er (2 + s.size) w h)
  rw [hE] at HC
  clear h hE
  go_enter Try.func42, Try.ntmps42
  go_wp2_with fail
  refine HC.out.mono ?_
  rintro e w1 ⟨rfl, hx1, hk1⟩
  have H1 := hid (And.intro hx1 (kept_none (r := v.ownBlock) hk1))
  clear hx1 hk1
  go_wp2
  first | go_end0 | refine bodyPost_ret (results_none rfl _ _ _) rfl ?_
  exact ⟨rfl, v, H1.out.1, H1.out.2, Moved.refl _ _⟩

theorem mtext_w (c : Nat) (v : Value) (lim : Int) (l : List UInt8) (er : Int) (s : ByteArray) (w : World) (h : MwAt w c v lim l er)
    (h0 : 0 ≤ lim) (h1 : lim ≤ 9223372036854775807) (hl : l.length + (s.size + 10) ≤ 140737488355328) :
    Calls Try.prog 42 #[.pointer (some ⟨c, 0, none⟩), .string s] w fun e w' => e = .returned (.tuple #[]) ∧ ∃ v', MwAt w' c v' lim (xL lim l er s) (xE lim l er s) ∧ Kept c v.ownBlock w w' ∧ Moved w v v' := by
  by_cases hs : s.size ≤ 65535
  · have e : xE lim l er s = adm lim l.length er true (2 + s.size : Nat) := by simp [xE, hs]
    exact mtext_in c v lim l er s w h h0 h1 hl hs _ e.symm _ rfl
  · have e : xE lim l er s = adm lim l.length er false (2 + s.size) := by simp [xE, hs]
    have hd : ¬ xE lim l er s = 0 := by rw [e]; unfold adm; split <;> simp_all
    rw [xL, if_neg hd]
    exact mtext_out c v lim l er s w h (by omega) _ e.symm
end Go.Proofs.Ytchlmcpnjpllnaa
