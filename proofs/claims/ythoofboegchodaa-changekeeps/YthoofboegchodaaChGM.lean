/- The document's test of what fits: signatures, requests, certificates, a change. -/
import Derived.Test.YthoofboegchodaaCgAM
import Derived.Test.YthoofboegchodaaChAM
import Derived.Test.YthoofboegchodaaKd1
import Derived.Test.YthoofboegchodaaHlAM
import Derived.Deep.DeepMust
namespace Go.Proofs.Ythoofboegchodaa
open Go.RowKit

set_option maxRecDepth 100000 in
theorem wof_any (e s : Int) (h0 : 0 ≤ e) (h1 : e ≤ 60) (w : World) : Calls Try.prog 63 #[.int .i64 e, .int .i64 s] w fun r w' => r = .returned (.bool (ofB e s)) ∧ Below w.heap.size w w' := by
  unfold ofB
  by_cases h2 : 4 * e < s
  · rw [decide_eq_true h2]
    go_enter Try.func63, Try.ntmps63
    go_wp2
    go_ret
    exact ⟨by simp, Below.refl _ _⟩
  · rw [decide_eq_false h2]
    have hd : decide (4 * e < s) = false := decide_eq_false h2
    go_enter Try.func63, Try.ntmps63
    go_wp2
    go_ret
    exact ⟨by simp, Below.refl _ _⟩
set_option maxRecDepth 100000 in
set_option maxHeartbeats 1600000 in
theorem wasked_any (r : Rq) (w : World) : Calls Try.prog 64 #[.agg #[.int .i64 r.c, .int .i64 r.st, .int .i64 r.k, .string r.key, .float .f64 r.b, .int .i64 r.id]] w fun e w' => e = .returned (.bool (askB r)) ∧ Below w.heap.size w w' := by
  have H0 : Hid (RqAt (w.alloc (.cells #[.int .i64 r.c, .int .i64 r.st, .int .i64 r.k, .string r.key, .float .f64 r.b, .int .i64 r.id] 49)) w.heap.size r ∧ Below w.heap.size w (w.alloc (.cells #[.int .i64 r.c, .int .i64 r.st, .int .i64 r.k, .string r.key, .float .f64 r.b, .int .i64 r.id] 49))) := hid ⟨heap_alloc_last w _, (Below.refl w.heap.size w).alloc (Nat.le_refl _) _⟩
  obtain ⟨⟨y0, y1⟩, y2, y3, y4, y5⟩ := H0.out.1.cells
  have HR : Hid (∀ u : World, Calls Try.prog 20 #[.agg #[.int .i64 r.c, .int .i64 r.st, .int .i64 r.k, .string r.key, .float .f64 r.b, .int .i64 r.id]] u fun e w' => e = .returned (.bool (rightB r)) ∧ Below u.heap.size u w') := hid (fun u => qright_any r u)
  have HN : Hid (∀ u : World, Calls Try.prog 26 #[.agg #[.int .i64 r.c, .int .i64 r.st, .int .i64 r.k, .string r.key, .float .f64 r.b, .int .i64 r.id]] u fun e w' => e = .returned (.bool (nullB r)) ∧ Below u.heap.size u w') := hid (fun u => qnull_any r u)
  rw [askB]
  cases hr : rightB r with
  | true =>
    rw [hr] at HR
    clear hr
    go_enter Try.func64, Try.ntmps64
    go_wp2_with (first
      | (go_at_call 20; refine (HR.out _).mono ?_; rintro e w1 ⟨rfl, hb⟩; have H1 := hid (H0.out.2.trans (hb.mono H0.out.2.size)); clear hb))
    go_ret
    exact ⟨by simp, H1.out⟩
  | false =>
    rw [hr] at HR
    clear hr
    go_enter Try.func64, Try.ntmps64
    go_wp2_with (first
      | (go_at_call 26; refine (HN.out _).mono ?_; rintro e w2 ⟨rfl, hb⟩; have H2 := hid (H1.out.2.trans (hb.mono H1.out.2.size)); clear hb)
      | (go_at_call 20; refine (HR.out _).mono ?_; rintro e w1 ⟨rfl, hb⟩; have H1 := hid (And.intro (H0.out.1.keep hb) (H0.out.2.trans (hb.mono H0.out.2.size))); clear hb y0 y1 y2 y3 y4 y5; obtain ⟨⟨y0, y1⟩, y2, y3, y4, y5⟩ := H1.out.1.cells))
    go_ret
    exact ⟨by simp, H2.out⟩
set_option maxRecDepth 100000 in
set_option maxHeartbeats 3200000 in
theorem wsigs_any (a : Option Addr) (n cap : Nat) (l : List Sg) (hn : l.length = n) (hm : n ≤ maxLen) (w : World) (hP : PairsIn w a l) : Calls Try.prog 62 #[.slice a n cap] w fun e w' => e = .returned (.bool (sigsB l)) ∧ Below w.heap.size w w' := by
  obtain ⟨V, eV⟩ : ∃ V, V = sigsB l := ⟨_, rfl⟩
  rw [← eV]
  have hmi : (n : Int) ≤ 9223372036854775807 := by unfold maxLen at hm; omega
  have HV : Hid (V = (decide (n ≤ 16) && allTo (fun i => sigB (l.getD i sg0)) n)) := hid (by rw [eV, sigsB, hn])
  have HP := hid hP
  have HN := hid hn
  clear eV hP hn hm
  go_enter Try.func62, Try.ntmps62
  go_wp2
  go_loopw [3] (fun i wr => ∃ j : Nat, j ≤ n ∧ i = .int .i64 (j : Int) ∧ allTo (fun i => sigB (l.getD i sg0)) j = true ∧ Below w.heap.size w wr)
    (fun i _ => ((n : Int) - intOf i).toNat)
  case atStart => exact ⟨0, Nat.zero_le _, rfl, rfl, Below.refl _ _⟩
  case round =>
    obtain ⟨j, hj, rfl, hok, hB⟩ := hrel
    have HB := hid hB
    have HOk := hid hok
    clear hok hB
    have hj0 : (0 : Int) ≤ (j : Int) := Int.natCast_nonneg _
    by_cases hjn : j = n
    · have hj1 : ¬ ((j : Int) < (n : Int)) := by omega
      by_cases h16 : n ≤ 16
      · have h16i : (n : Int) ≤ 16 := by omega
        have hv : Hid (V = true) := hid (by rw [HV.out, decide_eq_true h16, ← hjn]; exact HOk.out)
        clear hj hjn h16
        go_wp2
        go_ret
        exact ⟨by rw [hv.out]; simp, HB.out⟩
      · have h16i : ¬ ((n : Int) ≤ 16) := by omega
        have hv : Hid (V = false) := hid (by rw [HV.out, decide_eq_false h16]; rfl)
        clear hj hjn h16
        go_wp2
        go_ret
        exact ⟨by rw [hv.out]; simp, HB.out⟩
    · have hj1 : (j : Int) < (n : Int) := by omega
      have hjl : j < l.length := by have := HN.out; omega
      obtain ⟨g, off, rfl, hc1⟩ : ∃ g off, a = some ⟨g, off, none⟩ ∧ wr.cell? ⟨g, off + j * 2, none⟩ = some (.int .i64 (l.getD j sg0).1) := by
        rcases HP.out with e | ⟨g, off, ha, hg, hc⟩
        · rw [e] at hjl; simp at hjl
        · have hx : l[j]? = some (l.getD j sg0) := by simp [hjl]
          obtain ⟨k1, k2⟩ := hc j _ hx
          exact ⟨g, off, ha, (World.cell?_of_block (a := ⟨g, off + j * 2, none⟩) (HB.out.block g hg)).trans k1⟩
      have HJ := hid (And.intro hj hjn)
      have HFa : Hid (sigB (l.getD j sg0) = false → V = false) := hid (fun e => by rw [HV.out, allTo_no j (by omega) e, Bool.and_false])
      have HTr : Hid (sigB (l.getD j sg0) = true → allTo (fun i => sigB (l.getD i sg0)) (j + 1) = true) := hid (fun e => by rw [allTo, HOk.out, e]; rfl)
      generalize l.getD j sg0 = p at hc1 HFa HTr
      have hjb : (j : Int) ≤ 9223372036854775806 := by omega
      clear hj hjn hjl
      by_cases h1 : p.1 < 0
      · have hf := hid (HFa.out (by rw [sigB, inB, decide_eq_false (by omega)]; rfl))
        go_wp2
        go_ret
        exact ⟨by rw [hf.out]; rfl, HB.out⟩
      · by_cases h2 : 199 < p.1
        · have hf := hid (HFa.out (by rw [sigB, inB, decide_eq_false (show ¬ p.1 ≤ 199 by omega), Bool.and_false]))
          go_wp2
          go_ret
          exact ⟨by rw [hf.out]; rfl, HB.out⟩
        · have HT := hid (HTr.out (by rw [sigB, inB, decide_eq_true (by omega), decide_eq_true (by omega)]; rfl))
          go_wp2
          go_roundw
          case rel => exact ⟨j + 1, by have := HJ.out; omega, by go_num, HT.out, HB.out⟩
          case measure => simp [intOf]; omega
set_option maxRecDepth 100000 in
set_option maxHeartbeats 6400000 in
theorem wchange_any {F : Nat → Prop} (ep : Int) (h0 : 0 ≤ ep) (h1 : ep ≤ 60) (z : Cg) (a : Option Addr) (n cap : Nat) (hl : z.2.2.1.length ≤ maxLen) (hb : ∀ x, x ∈ z.2.2.1 → ctR x) (w : World) (hR : Reads F w (.slice a n cap) (dCts z.2.2.1)) :
    Calls Try.prog 35 #[.int .i64 ep, .agg #[.int .i64 z.1, .int .i64 z.2.1, .slice a n cap, .int .i64 z.2.2.2.1, .string z.2.2.2.2]] w fun e w' => e = .returned (.bool (cgB ep z)) ∧ Below w.heap.size w w' := by
  obtain ⟨V, eV⟩ : ∃ V, V = cgB ep z := ⟨_, rfl⟩
  rw [← eV]
  obtain ⟨wa, ea⟩ : ∃ wa, wa = w.alloc (.cells #[.int .i64 z.1, .int .i64 z.2.1, .slice a n cap, .int .i64 z.2.2.2.1, .string z.2.2.2.2] 26) := ⟨_, rfl⟩
  have hba : Below w.heap.size w wa := by rw [ea]; exact (Below.refl _ _).alloc (Nat.le_refl _) _
  have hXa : BxAt wa w.heap.size [.int .i64 z.1, .int .i64 z.2.1, .slice a n cap, .int .i64 z.2.2.2.1, .string z.2.2.2.2] 26 := by rw [ea]; exact heap_alloc_last w _
  have HA := hid (And.intro hXa hba)
  have HEa := hid ea
  have hnl : z.2.2.1.length = n := by
    obtain ⟨ad, cp, hv⟩ := hR.form
    rw [List.length_map] at hv
    cases hv
    rfl
  have hmi : (n : Int) ≤ 9223372036854775807 := by unfold maxLen at hl; omega
  have HE := hid (And.intro h0 h1)
  have HR := hid hR
  have HBd := hid hb
  have hVe : V = ((inB z.1 0 15 && inB z.2.1 1 15) && (ctsB ep z.2.2.1 && sigB z.2.2.2)) := eV
  clear hR hb ea hba hXa hl eV h0 h1
  have y0 := HA.out.1.cell 0 _ rfl; have y1 := HA.out.1.cell 1 _ rfl; have y2 := HA.out.1.cell 2 _ rfl; have y3 := HA.out.1.cell 3 _ rfl; have y4 := HA.out.1.cell 4 _ rfl
  by_cases f1 : z.1 < 0
  · have hf : V = false := by rw [hVe, inB, decide_eq_false (show ¬ (0 : Int) ≤ z.1 by omega)]; rfl
    subst hf
    clear hVe hnl HR HBd HE
    go_enter Try.func35, Try.ntmps35
    go_wp2_with fail
    try rw [← HEa.out]
    go_wp2
    go_ret
    exact ⟨rfl, HA.out.2⟩
  by_cases f2 : 16 ≤ z.1
  · have hf : V = false := by rw [hVe, inB, decide_eq_false (show ¬ z.1 ≤ 15 by omega), Bool.and_false]; rfl
    subst hf
    clear hVe hnl HR HBd HE
    go_enter Try.func35, Try.ntmps35
    go_wp2_with fail
    try rw [← HEa.out]
    go_wp2
    go_ret
    exact ⟨rfl, HA.out.2⟩
  by_cases f3 : z.2.1 < 1
  · have hf : V = false := by rw [hVe, inB, inB, decide_eq_false (show ¬ (1 : Int) ≤ z.2.1 by omega)]; simp
    subst hf
    clear hVe hnl HR HBd HE
    go_enter Try.func35, Try.ntmps35
    go_wp2_with fail
    try rw [← HEa.out]
    go_wp2
    go_ret
    exact ⟨rfl, HA.out.2⟩
  by_cases f4 : 15 < z.2.1
  · have hf : V = false := by rw [hVe, inB, inB, decide_eq_false (show ¬ z.2.1 ≤ 15 by omega)]; simp
    subst hf
    clear hVe hnl HR HBd HE
    go_enter Try.func35, Try.ntmps35
    go_wp2_with fail
    try rw [← HEa.out]
    go_wp2
    go_ret
    exact ⟨rfl, HA.out.2⟩
  by_cases f5 : (4 : Int) < (n : Int)
  · have hf : V = false := by rw [hVe, ctsB, decide_eq_false (show ¬ z.2.2.1.length ≤ 4 by omega)]; simp
    subst hf
    clear hVe hnl HR HBd HE
    go_enter Try.func35, Try.ntmps35
    go_wp2_with fail
    try rw [← HEa.out]
    go_wp2
    go_ret
    exact ⟨rfl, HA.out.2⟩
  have hV2 : V = (allTo (ctAt ep z.2.2.1) n && sigB z.2.2.2) := by
    rw [hVe, inB, inB, decide_eq_true (show (0 : Int) ≤ z.1 by omega), decide_eq_true (show z.1 ≤ 15 by omega), decide_eq_true (show (1 : Int) ≤ z.2.1 by omega), decide_eq_true (show z.2.1 ≤ 15 by omega), ctsB, decide_eq_true (show z.2.2.1.length ≤ 4 by omega), hnl]
    rfl
  obtain ⟨SB, eSB⟩ : ∃ S, S = sigB z.2.2.2 := ⟨_, rfl⟩
  have HSig : Hid (∀ (u : World) (q : Addr) (c1 : Nat), PairsIn u (some q) [z.2.2.2] → Calls Try.prog 62 #[.slice (some q) 1 c1] u fun e w' => e = .returned (.bool SB) ∧ Below u.heap.size u w') := hid (fun u q c1 hp => by
    have := wsigs_any (some q) 1 c1 [z.2.2.2] rfl (by unfold maxLen; omega) u hp
    rw [show sigsB [z.2.2.2] = SB by rw [eSB]; simp [sigsB, allTo]] at this
    exact this)
  rw [← eSB] at hV2
  obtain ⟨wb, eb⟩ : ∃ wb, wb = wa.alloc (.cells #[.int .i64 z.2.2.2.1, .string z.2.2.2.2] 24) := ⟨_, rfl⟩
  have HEb := hid eb
  have HBb : Hid (BxAt wb w.heap.size [.int .i64 z.1, .int .i64 z.2.1, .slice a n cap, .int .i64 z.2.2.2.1, .string z.2.2.2.2] 26 ∧ Below w.heap.size w wb ∧ PairsIn wb (some ⟨w.heap.size + 1, 0, none⟩) [z.2.2.2]) := hid ⟨by rw [eb]; exact HA.out.1.keep ((Below.refl _ _).alloc (Nat.le_refl _) _), by rw [eb]; exact HA.out.2.alloc HA.out.2.size _, by
    have hsz : w.heap.size + 1 = wa.heap.size := by rw [HEa.out]; simp
    rw [eb, hsz]
    refine .inr ⟨wa.heap.size, 0, rfl, by simp, fun j x hx => ?_⟩
    match j, hx with
    | 0, hx =>
      obtain rfl : z.2.2.2 = x := by simpa using hx
      have hb : BxAt (wa.alloc (.cells #[.int .i64 z.2.2.2.1, .string z.2.2.2.2] 24)) wa.heap.size [.int .i64 z.2.2.2.1, .string z.2.2.2.2] 24 := heap_alloc_last wa _
      exact ⟨hb.cell 0 _ rfl, hb.cell 1 _ rfl⟩
    | j + 1, hx => simp at hx⟩
  clear hVe eSB eb
  go_enter Try.func35, Try.ntmps35
  go_wp2_with fail
  rw [← HEa.out, ← HEb.out]
  go_must (refine (HSig.out _ _ _ HBb.out.2.2).mono ?_)
  rintro e w0 ⟨rfl, hb0⟩
  have H0 : Hid (BxAt w0 w.heap.size [.int .i64 z.1, .int .i64 z.2.1, .slice a n cap, .int .i64 z.2.2.2.1, .string z.2.2.2.2] 26 ∧ Below w.heap.size w w0) := hid ⟨HBb.out.1.keep hb0, HBb.out.2.1.trans (hb0.mono HBb.out.2.1.size)⟩
  clear hb0 y0 y1 y2 y3 y4 HEb
  have y0 := H0.out.1.cell 0 _ rfl; have y1 := H0.out.1.cell 1 _ rfl; have y2 := H0.out.1.cell 2 _ rfl; have y3 := H0.out.1.cell 3 _ rfl; have y4 := H0.out.1.cell 4 _ rfl
  cases SB with
  | false =>
    have HV : Hid (V = false) := hid (by rw [hV2, Bool.and_false])
    clear hV2 hnl
    go_wp2
    go_ret
    exact ⟨by rw [HV.out]; rfl, H0.out.2⟩
  | true =>
  have HV : Hid (V = allTo (ctAt ep z.2.2.1) n) := hid (by rw [hV2, Bool.and_true])
  have HN := hid hnl
  clear hV2 hnl
  go_wp2
  clear y0 y1 y2 y3 y4
  go_loopw [5] (fun i wr => ∃ j : Nat, j ≤ n ∧ i = .int .i64 (j : Int) ∧ allTo (ctAt ep z.2.2.1) j = true ∧ Below w0.heap.size w0 wr)
    (fun i _ => ((n : Int) - intOf i).toNat)
  case atStart => exact ⟨0, Nat.zero_le _, rfl, rfl, Below.refl _ _⟩
  case round =>
    obtain ⟨j, hj, rfl, hok, hB⟩ := hrel
    have H4 : Hid (BxAt wr w.heap.size [.int .i64 z.1, .int .i64 z.2.1, .slice a n cap, .int .i64 z.2.2.2.1, .string z.2.2.2.2] 26 ∧ Below w.heap.size w wr) := hid ⟨H0.out.1.keep hB, H0.out.2.trans (hB.mono H0.out.2.size)⟩
    have HB := hid hB
    have HOk := hid hok
    clear hok hB
    have y0 := H4.out.1.cell 0 _ rfl; have y1 := H4.out.1.cell 1 _ rfl; have y2 := H4.out.1.cell 2 _ rfl; have y3 := H4.out.1.cell 3 _ rfl; have y4 := H4.out.1.cell 4 _ rfl
    have hj0 : (0 : Int) ≤ (j : Int) := Int.natCast_nonneg _
    by_cases hjn : j = n
    · have hj1 : ¬ ((j : Int) < (n : Int)) := by omega
      have hv : Hid (V = true) := hid (by rw [HV.out, ← hjn]; exact HOk.out)
      clear hj hjn
      go_wp2
      go_ret
      exact ⟨by rw [hv.out]; rfl, H4.out.2⟩
    · have hj1 : (j : Int) < (n : Int) := by omega
      have hjl : j < z.2.2.1.length := by have := HN.out; omega
      have hR2 := HR.out
      rw [← HN.out] at hR2
      obtain ⟨g, off, cp, a8, kc, hv, hP, hg, hcl⟩ := ct_at (hR2.under H4.out.2 (Nat.le_refl _)) j hjl
      cases hv
      have hprev : j ≠ 0 → wr.cell? ⟨g, off + (j - 1) * 9 + 1, none⟩ = some (.int .i64 (z.2.2.1.getD (j - 1) ct0).2.1) := fun hz => by
        obtain ⟨g2, o2, c2, a2, k2, hv2, _, _, hc2⟩ := ct_at (hR2.under H4.out.2 (Nat.le_refl _)) (j - 1) (by omega)
        cases hv2
        exact hc2 1 _ rfl
      have HPr := hid (And.intro hprev hg)
      have HJ := hid (And.intro hj hjn)
      have HT0 : Hid (ctAt ep z.2.2.1 j = (((inB (z.2.2.1.getD j ct0).1 0 15 && ofB ep (z.2.2.1.getD j ct0).2.1) && (askB (z.2.2.1.getD j ct0).2.2.1 && sigsB (z.2.2.1.getD j ct0).2.2.2)) && (decide (j = 0) || decide ((z.2.2.1.getD (j - 1) ct0).2.1 < (z.2.2.1.getD j ct0).2.1)))) := hid rfl
      have HFa : Hid (ctAt ep z.2.2.1 j = false → V = false) := hid (fun e => by rw [HV.out]; exact allTo_no j (by omega) e)
      have HTr : Hid (ctAt ep z.2.2.1 j = true → allTo (ctAt ep z.2.2.1) (j + 1) = true) := hid (fun e => by rw [allTo, HOk.out, e]; rfl)
      have HYb := hid (HBd.out (z.2.2.1.getD j ct0) (by rw [List.getD_eq_getElem?_getD, List.getElem?_eq_getElem hjl]; exact List.getElem_mem hjl))
      generalize z.2.2.1.getD j ct0 = y at hcl hP HT0 HYb
      generalize (z.2.2.1.getD (j - 1) ct0).2.1 = ps at HPr HT0
      have HP := hid hP
      have k0 : wr.cell? ⟨g, off + j * 9, none⟩ = some (.int .i64 y.1) := hcl 0 _ rfl
      have k1 : wr.cell? ⟨g, off + j * 9 + 1, none⟩ = some (.int .i64 y.2.1) := hcl 1 _ rfl
      have k2 : wr.cell? ⟨g, off + j * 9 + 2, none⟩ = some (.int .i64 y.2.2.1.c) := hcl 2 _ rfl
      have k3 : wr.cell? ⟨g, off + j * 9 + 3, none⟩ = some (.int .i64 y.2.2.1.st) := hcl 3 _ rfl
      have k4 : wr.cell? ⟨g, off + j * 9 + 4, none⟩ = some (.int .i64 y.2.2.1.k) := hcl 4 _ rfl
      have k5 : wr.cell? ⟨g, off + j * 9 + 5, none⟩ = some (.string y.2.2.1.key) := hcl 5 _ rfl
      have k6 : wr.cell? ⟨g, off + j * 9 + 6, none⟩ = some (.float .f64 y.2.2.1.b) := hcl 6 _ rfl
      have k7 : wr.cell? ⟨g, off + j * 9 + 7, none⟩ = some (.int .i64 y.2.2.1.id) := hcl 7 _ rfl
      have k8 : wr.cell? ⟨g, off + j * 9 + 8, none⟩ = some (.slice a8 y.2.2.2.length kc) := hcl 8 _ rfl
      have hz : (j : Int) ≤ 4 := by omega
      clear hj hjn hjl hP hg hcl hR2 hprev
      go_wp2_with (refine wl_store_blk rfl 52 _ _ rfl wr.heap.size 0 rfl #[.int .i64 y.1, .int .i64 y.2.1, .int .i64 y.2.2.1.c, .int .i64 y.2.2.1.st, .int .i64 y.2.2.1.k, .string y.2.2.1.key, .float .f64 y.2.2.1.b, .int .i64 y.2.2.1.id, .slice a8 y.2.2.2.length kc] rfl [.int .i64 0, .int .i64 0, .int .i64 0, .int .i64 0, .int .i64 0, .string ⟨#[]⟩, .float .f64 0, .int .i64 0, .slice none 0 0] 52 (heap_alloc_last wr _) (by simp) (by kernel_rfl) (by simp [Value.oneCell']) ?_; intro w1 Hz; go_must (have hb1 := Hz.out.2.below ((Below.refl wr.heap.size wr).alloc (Nat.le_refl _) _) (Nat.le_refl _); have H1 : Hid (BxAt w1 w.heap.size [.int .i64 z.1, .int .i64 z.2.1, .slice (some ⟨g, off, none⟩) n cap, .int .i64 z.2.2.2.1, .string z.2.2.2.2] 26 ∧ BxAt w1 wr.heap.size [.int .i64 y.1, .int .i64 y.2.1, .int .i64 y.2.2.1.c, .int .i64 y.2.2.1.st, .int .i64 y.2.2.1.k, .string y.2.2.1.key, .float .f64 y.2.2.1.b, .int .i64 y.2.2.1.id, .slice a8 y.2.2.2.length kc] 52 ∧ Below wr.heap.size wr w1 ∧ Below w.heap.size w w1) := hid ⟨H4.out.1.keep hb1, Hz.out.1, hb1, H4.out.2.trans (hb1.mono H4.out.2.size)⟩); clear Hz hb1)
      clear k0 k1 k2 k3 k4 k5 k6 k7 k8 y0 y1 y2 y3 y4
      go_simp
      have HXg : Hid (∀ x : Cls w1, BxAt x.1 w.heap.size [.int .i64 z.1, .int .i64 z.2.1, .slice (some ⟨g, off, none⟩) n cap, .int .i64 z.2.2.2.1, .string z.2.2.2.2] 26) := hid (fun x => H1.out.1.keep x.2)
      have HXc : Hid (∀ x : Cls w1, BxAt x.1 wr.heap.size [.int .i64 y.1, .int .i64 y.2.1, .int .i64 y.2.2.1.c, .int .i64 y.2.2.1.st, .int .i64 y.2.2.1.k, .string y.2.2.1.key, .float .f64 y.2.2.1.b, .int .i64 y.2.2.1.id, .slice a8 y.2.2.2.length kc] 52) := hid (fun x => H1.out.2.1.keep x.2)
      have m2 : ∀ x : Cls w1, x.1.cell? ⟨w.heap.size, 2, none⟩ = some (.slice (some ⟨g, off, none⟩) n cap) := fun x => (HXg.out x).cell 2 _ rfl
      have d0 : ∀ x : Cls w1, x.1.cell? ⟨wr.heap.size, 0, none⟩ = some (.int .i64 y.1) := fun x => (HXc.out x).cell 0 _ rfl
      have d1 : ∀ x : Cls w1, x.1.cell? ⟨wr.heap.size, 1, none⟩ = some (.int .i64 y.2.1) := fun x => (HXc.out x).cell 1 _ rfl
      have d2 : ∀ x : Cls w1, x.1.cell? ⟨wr.heap.size, 2, none⟩ = some (.int .i64 y.2.2.1.c) := fun x => (HXc.out x).cell 2 _ rfl
      have d3 : ∀ x : Cls w1, x.1.cell? ⟨wr.heap.size, 3, none⟩ = some (.int .i64 y.2.2.1.st) := fun x => (HXc.out x).cell 3 _ rfl
      have d4 : ∀ x : Cls w1, x.1.cell? ⟨wr.heap.size, 4, none⟩ = some (.int .i64 y.2.2.1.k) := fun x => (HXc.out x).cell 4 _ rfl
      have d5 : ∀ x : Cls w1, x.1.cell? ⟨wr.heap.size, 5, none⟩ = some (.string y.2.2.1.key) := fun x => (HXc.out x).cell 5 _ rfl
      have d6 : ∀ x : Cls w1, x.1.cell? ⟨wr.heap.size, 6, none⟩ = some (.float .f64 y.2.2.1.b) := fun x => (HXc.out x).cell 6 _ rfl
      have d7 : ∀ x : Cls w1, x.1.cell? ⟨wr.heap.size, 7, none⟩ = some (.int .i64 y.2.2.1.id) := fun x => (HXc.out x).cell 7 _ rfl
      have d8 : ∀ x : Cls w1, x.1.cell? ⟨wr.heap.size, 8, none⟩ = some (.slice a8 y.2.2.2.length kc) := fun x => (HXc.out x).cell 8 _ rfl
      obtain ⟨BO, eO⟩ : ∃ B, B = ofB ep y.2.1 := ⟨_, rfl⟩
      obtain ⟨BA, eA⟩ : ∃ B, B = askB y.2.2.1 := ⟨_, rfl⟩
      obtain ⟨BS, eS⟩ : ∃ B, B = sigsB y.2.2.2 := ⟨_, rfl⟩
      have HOf : Hid (∀ u : World, Below w1.heap.size w1 u → Calls Try.prog 63 #[.int .i64 ep, .int .i64 y.2.1] u fun e w' => e = .returned (.bool BO) ∧ Below u.heap.size u w') := hid (fun u hu => by rw [eO]; exact wof_any ep _ HE.out.1 HE.out.2 u)
      have HAs : Hid (∀ u : World, Below w1.heap.size w1 u → Calls Try.prog 64 #[.agg #[.int .i64 y.2.2.1.c, .int .i64 y.2.2.1.st, .int .i64 y.2.2.1.k, .string y.2.2.1.key, .float .f64 y.2.2.1.b, .int .i64 y.2.2.1.id]] u fun e w' => e = .returned (.bool BA) ∧ Below u.heap.size u w') := hid (fun u hu => by rw [eA]; exact wasked_any _ u)
      have HSg : Hid (∀ u : World, Below w1.heap.size w1 u → Calls Try.prog 62 #[.slice a8 y.2.2.2.length kc] u fun e w' => e = .returned (.bool BS) ∧ Below u.heap.size u w') := hid (fun u hu => by rw [eS]; exact wsigs_any a8 _ kc y.2.2.2 rfl HYb.out.2.2.1 u ((HP.out.keep H1.out.2.2.1 (Nat.le_refl _)).keep hu (Nat.le_refl _)))
      have HT : Hid (ctAt ep z.2.2.1 j = (((inB y.1 0 15 && BO) && (BA && BS)) && (decide (j = 0) || decide (ps < y.2.1)))) := hid (by rw [HT0.out, eO, eA, eS])
      clear eO eA eS HT0
      haveI := Cls.ne w1
      cases BO with
      | false =>
        have hf := hid (HFa.out (by rw [HT.out, Bool.and_false, Bool.false_and, Bool.false_and]))
        refine wp_region_cls w1 (by kernel_rfl) (by kernel_rfl) ?_
        repeat (go_big_quiet_step ((first
          | (go_at_call 63; exact Cls.of _ (fun u hu => HOf.out u hu))
          | (go_at_call 64; exact Cls.of _ (fun u hu => HAs.out u hu))
          | (go_at_call 62; exact Cls.of _ (fun u hu => HSg.out u hu)))))
        refine wpQuiet_nil ?_
        rintro _ ⟨x, rfl⟩
        go_wp2
        go_ret
        exact ⟨by rw [hf.out]; rfl, H1.out.2.2.2.trans (x.2.mono H1.out.2.2.2.size)⟩
      | true =>
      by_cases hj00 : j = 0
      · have hd : decide ((0 : Int) < (j : Int)) = false := decide_eq_false (by omega)
        have hd2 : decide (0 < j) = false := decide_eq_false (by omega)
        have HTj : Hid ((decide (j = 0) || decide (ps < y.2.1)) = true) := hid (by rw [decide_eq_true hj00]; rfl)
        clear hj00
        by_cases hv0 : y.1 < 0
        · have hv0d : decide (y.1 < 0) = true := decide_eq_true hv0
          have hf := hid (HFa.out (by rw [HT.out, inB, decide_eq_false (show ¬ (0 : Int) ≤ y.1 by omega)]; simp))
          refine wp_region_cls w1 (by kernel_rfl) (by kernel_rfl) ?_
          repeat (go_big_quiet_step ((first
            | (go_at_call 63; exact Cls.of _ (fun u hu => HOf.out u hu))
            | (go_at_call 64; exact Cls.of _ (fun u hu => HAs.out u hu))
            | (go_at_call 62; exact Cls.of _ (fun u hu => HSg.out u hu)))))
          refine wpQuiet_nil ?_
          rintro _ ⟨x, rfl⟩
          go_wp2
          go_ret
          exact ⟨by rw [hf.out]; rfl, H1.out.2.2.2.trans (x.2.mono H1.out.2.2.2.size)⟩
        have hv0d : decide (y.1 < 0) = false := decide_eq_false hv0
        by_cases hv1 : 15 < y.1
        · have hv1d : decide (15 < y.1) = true := decide_eq_true hv1
          have hf := hid (HFa.out (by rw [HT.out, inB, decide_eq_false (show ¬ y.1 ≤ 15 by omega)]; simp))
          refine wp_region_cls w1 (by kernel_rfl) (by kernel_rfl) ?_
          repeat (go_big_quiet_step ((first
            | (go_at_call 63; exact Cls.of _ (fun u hu => HOf.out u hu))
            | (go_at_call 64; exact Cls.of _ (fun u hu => HAs.out u hu))
            | (go_at_call 62; exact Cls.of _ (fun u hu => HSg.out u hu)))))
          refine wpQuiet_nil ?_
          rintro _ ⟨x, rfl⟩
          go_wp2
          go_ret
          exact ⟨by rw [hf.out]; rfl, H1.out.2.2.2.trans (x.2.mono H1.out.2.2.2.size)⟩
        have hv1d : decide (15 < y.1) = false := decide_eq_false hv1
        have HT3 : Hid (ctAt ep z.2.2.1 j = (BA && BS)) := hid (by rw [HT.out, inB, decide_eq_true (show (0 : Int) ≤ y.1 by omega), decide_eq_true (show y.1 ≤ 15 by omega), HTj.out]; simp)
        cases BA with
        | false =>
          have hf := hid (HFa.out (by rw [HT3.out]; rfl))
          refine wp_region_cls w1 (by kernel_rfl) (by kernel_rfl) ?_
          repeat (go_big_quiet_step ((first
            | (go_at_call 63; exact Cls.of _ (fun u hu => HOf.out u hu))
            | (go_at_call 64; exact Cls.of _ (fun u hu => HAs.out u hu))
            | (go_at_call 62; exact Cls.of _ (fun u hu => HSg.out u hu)))))
          refine wpQuiet_nil ?_
          rintro _ ⟨x, rfl⟩
          go_wp2
          go_ret
          exact ⟨by rw [hf.out]; rfl, H1.out.2.2.2.trans (x.2.mono H1.out.2.2.2.size)⟩
        | true =>
          cases BS with
          | false =>
            have hf := hid (HFa.out (by rw [HT3.out]; rfl))
            refine wp_region_cls w1 (by kernel_rfl) (by kernel_rfl) ?_
            repeat (go_big_quiet_step ((first
              | (go_at_call 63; exact Cls.of _ (fun u hu => HOf.out u hu))
              | (go_at_call 64; exact Cls.of _ (fun u hu => HAs.out u hu))
              | (go_at_call 62; exact Cls.of _ (fun u hu => HSg.out u hu)))))
            refine wpQuiet_nil ?_
            rintro _ ⟨x, rfl⟩
            go_wp2
            go_ret
            exact ⟨by rw [hf.out]; rfl, H1.out.2.2.2.trans (x.2.mono H1.out.2.2.2.size)⟩
          | true =>
            have hp := hid (HTr.out (by rw [HT3.out]; rfl))
            refine wp_region_cls w1 (by kernel_rfl) (by kernel_rfl) ?_
            repeat (go_big_quiet_step ((first
              | (go_at_call 63; exact Cls.of _ (fun u hu => HOf.out u hu))
              | (go_at_call 64; exact Cls.of _ (fun u hu => HAs.out u hu))
              | (go_at_call 62; exact Cls.of _ (fun u hu => HSg.out u hu)))))
            refine wpQuiet_nil ?_
            rintro _ ⟨x, rfl⟩
            go_wp2
            go_roundw
            case rel => exact ⟨j + 1, by have := HJ.out; omega, by go_num, hp.out, HB.out.trans ((H1.out.2.2.1.trans (x.2.mono H1.out.2.2.1.size)).mono HB.out.size)⟩
            case measure => simp [intOf]; omega
      · obtain ⟨jm, ejm⟩ : ∃ jm : Nat, jm = j - 1 := ⟨_, rfl⟩
        have dp : ∀ x : Cls w1, x.1.cell? ⟨g, off + jm * 9 + 1, none⟩ = some (.int .i64 ps) := fun x => (World.cell?_of_block (a := ⟨g, off + jm * 9 + 1, none⟩) ((x.2.block g (Nat.lt_of_lt_of_le HPr.out.2 H1.out.2.2.1.size)).trans (H1.out.2.2.1.block g HPr.out.2))).trans (by rw [ejm]; exact HPr.out.1 hj00)
        have hw : IntKind.i64.wrap ((j : Int) - 1) = (jm : Int) := by rw [show (j : Int) - 1 = (jm : Int) by omega]; exact wrap_small _ (by omega) (by omega)
        have hjm0 : (0 : Int) ≤ (jm : Int) := Int.natCast_nonneg _
        have hjm1 : (jm : Int) < (n : Int) := by omega
        have hd : decide ((0 : Int) < (j : Int)) = true := decide_eq_true (by omega)
        have hd2 : decide (0 < j) = true := decide_eq_true (by omega)
        have HJz : Hid (decide (j = 0) = false) := hid (decide_eq_false hj00)
        clear ejm hj00
        by_cases hlt : ¬ ps < y.2.1
        · have hle : decide (y.2.1 ≤ ps) = true := decide_eq_true (by omega)
          have hle2 : y.2.1 ≤ ps := by omega
          have hf := hid (HFa.out (by rw [HT.out, HJz.out, decide_eq_false hlt]; simp))
          refine wp_region_cls w1 (by kernel_rfl) (by kernel_rfl) ?_
          repeat (go_big_quiet_step ((first
            | (go_at_call 63; exact Cls.of _ (fun u hu => HOf.out u hu))
            | (go_at_call 64; exact Cls.of _ (fun u hu => HAs.out u hu))
            | (go_at_call 62; exact Cls.of _ (fun u hu => HSg.out u hu)))))
          refine wpQuiet_nil ?_
          rintro _ ⟨x, rfl⟩
          go_wp2
          go_ret
          exact ⟨by rw [hf.out]; rfl, H1.out.2.2.2.trans (x.2.mono H1.out.2.2.2.size)⟩
        · have hlt : ps < y.2.1 := Classical.not_not.1 hlt
          have hle : decide (y.2.1 ≤ ps) = false := decide_eq_false (by omega)
          have hle2 : ¬ (y.2.1 ≤ ps) := by omega
          have HTj : Hid ((decide (j = 0) || decide (ps < y.2.1)) = true) := hid (by rw [decide_eq_true hlt, Bool.or_true])
          clear hlt
          by_cases hv0 : y.1 < 0
          · have hv0d : decide (y.1 < 0) = true := decide_eq_true hv0
            have hf := hid (HFa.out (by rw [HT.out, inB, decide_eq_false (show ¬ (0 : Int) ≤ y.1 by omega)]; simp))
            refine wp_region_cls w1 (by kernel_rfl) (by kernel_rfl) ?_
            repeat (go_big_quiet_step ((first
              | (go_at_call 63; exact Cls.of _ (fun u hu => HOf.out u hu))
              | (go_at_call 64; exact Cls.of _ (fun u hu => HAs.out u hu))
              | (go_at_call 62; exact Cls.of _ (fun u hu => HSg.out u hu)))))
            refine wpQuiet_nil ?_
            rintro _ ⟨x, rfl⟩
            go_wp2
            go_ret
            exact ⟨by rw [hf.out]; rfl, H1.out.2.2.2.trans (x.2.mono H1.out.2.2.2.size)⟩
          have hv0d : decide (y.1 < 0) = false := decide_eq_false hv0
          by_cases hv1 : 15 < y.1
          · have hv1d : decide (15 < y.1) = true := decide_eq_true hv1
            have hf := hid (HFa.out (by rw [HT.out, inB, decide_eq_false (show ¬ y.1 ≤ 15 by omega)]; simp))
            refine wp_region_cls w1 (by kernel_rfl) (by kernel_rfl) ?_
            repeat (go_big_quiet_step ((first
              | (go_at_call 63; exact Cls.of _ (fun u hu => HOf.out u hu))
              | (go_at_call 64; exact Cls.of _ (fun u hu => HAs.out u hu))
              | (go_at_call 62; exact Cls.of _ (fun u hu => HSg.out u hu)))))
            refine wpQuiet_nil ?_
            rintro _ ⟨x, rfl⟩
            go_wp2
            go_ret
            exact ⟨by rw [hf.out]; rfl, H1.out.2.2.2.trans (x.2.mono H1.out.2.2.2.size)⟩
          have hv1d : decide (15 < y.1) = false := decide_eq_false hv1
          have HT3 : Hid (ctAt ep z.2.2.1 j = (BA && BS)) := hid (by rw [HT.out, inB, decide_eq_true (show (0 : Int) ≤ y.1 by omega), decide_eq_true (show y.1 ≤ 15 by omega), HTj.out]; simp)
          cases BA with
          | false =>
            have hf := hid (HFa.out (by rw [HT3.out]; rfl))
            refine wp_region_cls w1 (by kernel_rfl) (by kernel_rfl) ?_
            repeat (go_big_quiet_step ((first
              | (go_at_call 63; exact Cls.of _ (fun u hu => HOf.out u hu))
              | (go_at_call 64; exact Cls.of _ (fun u hu => HAs.out u hu))
              | (go_at_call 62; exact Cls.of _ (fun u hu => HSg.out u hu)))))
            refine wpQuiet_nil ?_
            rintro _ ⟨x, rfl⟩
            go_wp2
            go_ret
            exact ⟨by rw [hf.out]; rfl, H1.out.2.2.2.trans (x.2.mono H1.out.2.2.2.size)⟩
          | true =>
            cases BS with
            | false =>
              have hf := hid (HFa.out (by rw [HT3.out]; rfl))
              refine wp_region_cls w1 (by kernel_rfl) (by kernel_rfl) ?_
              repeat (go_big_quiet_step ((first
                | (go_at_call 63; exact Cls.of _ (fun u hu => HOf.out u hu))
                | (go_at_call 64; exact Cls.of _ (fun u hu => HAs.out u hu))
                | (go_at_call 62; exact Cls.of _ (fun u hu => HSg.out u hu)))))
              refine wpQuiet_nil ?_
              rintro _ ⟨x, rfl⟩
              go_wp2
              go_ret
              exact ⟨by rw [hf.out]; rfl, H1.out.2.2.2.trans (x.2.mono H1.out.2.2.2.size)⟩
            | true =>
              have hp := hid (HTr.out (by rw [HT3.out]; rfl))
              refine wp_region_cls w1 (by kernel_rfl) (by kernel_rfl) ?_
              repeat (go_big_quiet_step ((first
                | (go_at_call 63; exact Cls.of _ (fun u hu => HOf.out u hu))
                | (go_at_call 64; exact Cls.of _ (fun u hu => HAs.out u hu))
                | (go_at_call 62; exact Cls.of _ (fun u hu => HSg.out u hu)))))
              refine wpQuiet_nil ?_
              rintro _ ⟨x, rfl⟩
              go_wp2
              go_roundw
              case rel => exact ⟨j + 1, by have := HJ.out; omega, by go_num, hp.out, HB.out.trans ((H1.out.2.2.1.trans (x.2.mono H1.out.2.2.1.size)).mono HB.out.size)⟩
              case measure => simp [intOf]; omega
end Go.Proofs.Ythoofboegchodaa
