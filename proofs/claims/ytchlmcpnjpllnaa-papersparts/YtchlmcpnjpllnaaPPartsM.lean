/- PapersParts: the walk. -/
import Derived.Test.YtchlmcpnjpllnaaPWalksM
namespace Go.Proofs.Ytchlmcpnjpllnaa
open Go.RowKit

theorem walkF_stop (ep : Int) (ps : List (Int × ByteArray)) (cs : List ByteArray) (k : Nat) (hk : k ≤ cs.length) (h : ¬ (walkF ep ps (cs.take k)).2.2 = 0) :
    walkF ep ps cs = walkF ep ps (cs.take k) ∧ ((walkF ep ps (cs.take k)).2.1 < k ∨ (walkF ep ps (cs.take k)).2.1 = 0) := by
  unfold walkF at h ⊢
  by_cases hr : rightP ep ps = true
  · rw [if_pos hr] at h ⊢
    rw [if_pos hr]
    have h1 := walkR_app (cs.take k) (cs.drop k) ep ps 0
    rw [List.take_append_drop, if_neg h] at h1
    have h2 := (walkR_le (cs.take k) ep ps 0).2.2.2 h
    rw [List.length_take, Nat.min_eq_left hk] at h2
    exact ⟨h1, .inl (by omega)⟩
  · rw [if_neg hr] at h ⊢
    rw [if_neg hr]
    exact ⟨rfl, .inr rfl⟩
theorem walkF_on (ep : Int) (ps : List (Int × ByteArray)) (cs : List ByteArray) (k : Nat) (hk : k ≤ cs.length) (h : (walkF ep ps (cs.take k)).2.2 = 0) :
    (walkF ep ps (cs.take k)).2.1 = k ∧ walkF ep ps cs = ((walkF (walkF ep ps (cs.take k)).1.1 (walkF ep ps (cs.take k)).1.2 (cs.drop k)).1, ((walkF (walkF ep ps (cs.take k)).1.1 (walkF ep ps (cs.take k)).1.2 (cs.drop k)).2.1 + k, (walkF (walkF ep ps (cs.take k)).1.1 (walkF ep ps (cs.take k)).1.2 (cs.drop k)).2.2)) := by
  by_cases hr : rightP ep ps = true
  · have e1 : ∀ l, walkF ep ps l = walkR ep ps l 0 := fun l => by rw [walkF, if_pos hr]
    rw [e1] at h
    rw [e1, e1]
    have h3 := walkR_right (cs.take k) ep ps 0 hr
    have h1 := walkR_app (cs.take k) (cs.drop k) ep ps 0
    rw [List.take_append_drop, if_pos h] at h1
    have h2 := (walkR_le (cs.take k) ep ps 0).2.2.1 h
    rw [List.length_take, Nat.min_eq_left hk] at h1 h2
    rw [walkF, if_pos h3]
    refine ⟨by omega, ?_⟩
    rw [h1, walkR_shift]
  · rw [walkF, if_neg hr] at h
    exact absurd h (by decide)
theorem walkF_n (ep : Int) (ps : List (Int × ByteArray)) (cs : List ByteArray) : (walkF ep ps cs).2.1 ≤ cs.length := by
  rw [walkF]
  split
  · have := (walkR_le cs ep ps 0).2.1
    omega
  · exact Nat.zero_le _
/-- A paper that was answered, at block b. -/
structure PbSt (w0 w : World) (b : Nat) (Z : Int) (ad : Option Addr) (N cp : Nat) (M : List (Int × ByteArray)) : Prop where
  pp : PpAt w b Z (.slice ad N cp) 24
  own : PairsIn w ad M
  far : ∀ x, ad = some x → x.block ≠ b
  bel : Below w0.heap.size w0 w
theorem PbSt.a {w0 w3 : World} {Z : Int} {ad : Option Addr} {N cp : Nat} {M : List (Int × ByteArray)} (h : PairsIn w3 ad M ∧ Below w0.drew.heap.size w0.drew w3) (hf : ∀ x, ad = some x → x.block < w3.heap.size) :
    PbSt w0 (w3.alloc (.cells #[.int .i64 Z, .slice ad N cp] 24)) w3.heap.size Z ad N cp M := by
  have hb : Below w0.heap.size w0 w3 := (Below.refl _ _).drew.trans h.2
  exact ⟨PpAt.new _ _ _ _, h.1.alloc _, fun x hx => by have := hf x hx; omega, hb.alloc hb.size _⟩
theorem PbSt.b {w0 w3 : World} {Z : Int} {ad : Option Addr} {N cp : Nat} {M : List (Int × ByteArray)}
    (h : PairsIn w3 ad M ∧ Below (w0.alloc (.cells #[.int .i64 0, .slice none 0 0] 24)).drew.heap.size (w0.alloc (.cells #[.int .i64 0, .slice none 0 0] 24)).drew w3) (hf : ∀ x, ad = some x → x.block ≠ w0.heap.size) :
    PbSt w0 ((w3.setCell ⟨w0.heap.size, 0, none⟩ (.int .i64 Z)).setCell ⟨w0.heap.size, 1, none⟩ (.slice ad N cp)) w0.heap.size Z ad N cp M := by
  have hb : Below w0.heap.size w0 w3 := ((Below.refl _ _).alloc (Nat.le_refl _) _).drew.trans (h.2.mono (by simp))
  have hk : w3.heap[w0.heap.size]? = some (.cells #[.int .i64 0, .slice none 0 0] 24 (0, 0)) := (h.2.block w0.heap.size (by simp)).trans (heap_alloc_last w0 _)
  exact ⟨res_put hk, pairs_put (pairs_put h.1 _ _ _ hf) _ _ _ hf, hf, (hb.setCell (p := ⟨w0.heap.size, 0, none⟩) (Nat.le_refl _) _).setCell (p := ⟨w0.heap.size, 1, none⟩) (Nat.le_refl _) _⟩
theorem cut_k (cut : Int) (m : Nat) (hm : m ≤ 20) : ∃ k : Nat, k ≤ m ∧ wrap64 ((IntKind.u64.wrap cut).tmod ((m : Int) + 1)) = (k : Int) := by
  have h0 : 0 ≤ IntKind.u64.wrap cut := by
    simp [IntKind.wrap, IntKind.bits, IntKind.signed]
    omega
  generalize IntKind.u64.wrap cut = x at h0
  rw [Int.tmod_eq_emod_of_nonneg h0]
  have h1 := Int.emod_nonneg x (show (m : Int) + 1 ≠ 0 by omega)
  have h2 := Int.emod_lt_of_pos x (show (0 : Int) < (m : Int) + 1 by omega)
  refine ⟨(x % ((m : Int) + 1)).toNat, by omega, ?_⟩
  unfold wrap64
  omega
theorem StrsIn.take {w : World} {a : Option Addr} {ss : List ByteArray} (h : StrsIn w a ss) (k : Nat) : StrsIn w a (ss.take k) := by
  rcases h with h | ⟨g, off, ha, hg, hc⟩
  · exact .inl (by rw [h]; simp)
  · refine .inr ⟨g, off, ha, hg, fun j s hj => hc j s ?_⟩
    rw [List.getElem?_take] at hj
    split at hj
    · exact hj
    · cases hj
/-- Where the rest of a list of texts lies. -/
def restAd (ca : Option Addr) (cc k : Nat) : Option Addr := if cc = k then ca else ca.map (·.add k)
theorem StrsIn.rest {w : World} {a : Option Addr} {ss : List ByteArray} (h : StrsIn w a ss) (cc k : Nat) (hk : cc = k → ss.length ≤ k) : StrsIn w (restAd a cc k) (ss.drop k) := by
  unfold restAd
  split
  · next e => exact .inl (List.drop_eq_nil_of_le (hk e))
  · rcases h with h | ⟨g, off, ha, hg, hc⟩
    · exact .inl (by rw [h]; simp)
    · subst ha
      exact .inr ⟨g, off + k, by simp [Addr.add], hg, fun j s hj => by rw [Nat.add_assoc]; exact hc (k + j) s (by rwa [List.getElem?_drop] at hj)⟩
set_option maxRecDepth 100000 in
set_option maxHeartbeats 3200000 in
theorem papersParts_walk (ep : Int) (a : Option Addr) (n cap : Nat) (ps : List (Int × ByteArray)) (hn : ps.length = n) (hm : n ≤ maxLen) (ca : Option Addr) (m cc : Nat) (cs : List ByteArray) (hcn : cs.length = m) (hcm : m ≤ maxLen) (hcc : m ≤ cc) (hcz : ∀ c, c ∈ cs → c.size ≤ maxLen) (cut : Int) (w : World) (hP : PairsIn w a ps) (hC : StrsIn w ca cs) :
    Calls Try.prog 8 #[.agg #[.int .i64 ep, .slice a n cap], .slice ca m cc, .int .i64 cut] w fun e w' => e = .returned (.bool true) ∧ Below w.heap.size w w' := by
  have hm63 : (m : Int) ≤ 9223372036854775807 := by unfold maxLen at hcm; omega
  by_cases h20 : 20 < m
  · have k20 : (20 : Int) < (m : Int) := by omega
    clear hP hC hn hm hcn hcm hcz
    go_enter Try.func8, Try.ntmps8
    go_wp2_with (first
      | (go_at_call 9; have := H1; refine (alives_any _).mono ?_; rintro e w2 ⟨rfl, hb2⟩; have H2 := hid (H1.out.trans (hb2.mono H1.out.size)); clear hb2)
      | (go_at_call 9; refine (alives_any _).mono ?_; rintro e w1 ⟨rfl, hb1⟩; have H1 := hid hb1; clear hb1))
    go_ret
    exact ⟨rfl, ((Below.refl w.heap.size w).alloc (Nat.le_refl _) _).trans (H2.out.mono (by simp))⟩
  · have k20 : ¬ ((20 : Int) < (m : Int)) := by omega
    obtain ⟨k, hk, ek⟩ := cut_k cut m (by omega)
    have hk0 : (0 : Int) ≤ (k : Int) := Int.natCast_nonneg _
    have hk1 : (k : Int) ≤ (m : Int) := by omega
    have hkc : k ≤ cc := by omega
    have hW : ∀ (u : World) (ep : Int) (ps : List (Int × ByteArray)) (n : Nat) (ad : Option Addr) (cp : Nat) (cd : Option Addr) (l : List ByteArray) (ml cl : Nat), ps.length = n → n ≤ maxLen → l.length = ml → ml ≤ maxLen → (∀ c, c ∈ l → c.size ≤ maxLen) → PairsIn u ad ps → StrsIn u cd l → Calls Try.prog 20 #[.agg #[.int .i64 ep, .slice ad n cp], .slice cd ml cl] u fun e w' => ∃ ad' cp', e = .returned (.tuple #[.agg #[.int .i64 (walkF ep ps l).1.1, .slice ad' (walkF ep ps l).1.2.length cp'], .int .i64 ((walkF ep ps l).2.1 : Int), .int .i64 (walkF ep ps l).2.2]) ∧ (PairsIn w' ad' (walkF ep ps l).1.2 ∧ Below u.heap.size u w') ∧ ∀ x, ad' = some x → u.heap.size ≤ x.block ∧ x.block < w'.heap.size := fun u ep ps n ad cp cd l ml cl h1 h2 h3 h4 h5 hu hv =>
      (ywalk_any ep ad n cp ps h1 h2 cd ml cl l h3 h4 h5 u hu hv).mono fun e w' ⟨v, he, ho, hb⟩ => by
        obtain ⟨ad', cp', hv, hi⟩ := own_pairs ho
        exact ⟨ad', cp', by rw [he, hv], ⟨hi, hb⟩, fun x hx => by rw [hv, hx] at ho; exact ho.lt x.block rfl⟩
    have HF := hid (PpAt.new w ep (.slice a n cap) 24)
    have HJ := hid (hP.alloc (.cells #[.int .i64 ep, .slice a n cap] 24))
    have HK := hid (hC.alloc (.cells #[.int .i64 ep, .slice a n cap] 24))
    have HA : Hid (∀ u : World, PairsIn u a ps → StrsIn u ca cs → Calls Try.prog 20 #[.agg #[.int .i64 ep, .slice a n cap], .slice ca m cc] u fun e w' => ∃ ad' cp', e = .returned (.tuple #[.agg #[.int .i64 (walkF ep ps cs).1.1, .slice ad' (walkF ep ps cs).1.2.length cp'], .int .i64 ((walkF ep ps cs).2.1 : Int), .int .i64 (walkF ep ps cs).2.2]) ∧ (PairsIn w' ad' (walkF ep ps cs).1.2 ∧ Below u.heap.size u w') ∧ ∀ x, ad' = some x → u.heap.size ≤ x.block ∧ x.block < w'.heap.size) := hid (fun u hu hv => hW u ep ps n a cap ca cs m cc hn hm hcn hcm hcz hu hv)
    have HB : Hid (∀ (u : World) (cl : Nat), PairsIn u a ps → StrsIn u ca cs → Calls Try.prog 20 #[.agg #[.int .i64 ep, .slice a n cap], .slice ca k cl] u fun e w' => ∃ ad' cp', e = .returned (.tuple #[.agg #[.int .i64 (walkF ep ps (cs.take k)).1.1, .slice ad' (walkF ep ps (cs.take k)).1.2.length cp'], .int .i64 ((walkF ep ps (cs.take k)).2.1 : Int), .int .i64 (walkF ep ps (cs.take k)).2.2]) ∧ (PairsIn w' ad' (walkF ep ps (cs.take k)).1.2 ∧ Below u.heap.size u w') ∧ ∀ x, ad' = some x → u.heap.size ≤ x.block ∧ x.block < w'.heap.size) := hid (fun u cl hu hv => hW u ep ps n a cap ca (cs.take k) k cl hn hm (by rw [List.length_take, hcn]; omega) (by omega) (fun c hc => hcz c (List.mem_of_mem_take hc)) hu (hv.take k))
    have hL1 := walkF_len ep ps cs
    have hL2 := walkF_len ep ps (cs.take k)
    by_cases hf : (walkF ep ps (cs.take k)).2.2 = 0
    · obtain ⟨hq, hw⟩ := walkF_on ep ps cs k (by omega) hf
      have hCw : ∀ (u : World) (ad : Option Addr) (cp : Nat), PairsIn u ad (walkF ep ps (cs.take k)).1.2 → StrsIn u ca cs → Calls Try.prog 20 #[.agg #[.int .i64 (walkF ep ps (cs.take k)).1.1, .slice ad (walkF ep ps (cs.take k)).1.2.length cp], .slice (restAd ca cc k) (m - k) (cc - k)] u fun e w' => ∃ ad' cp', e = .returned (.tuple #[.agg #[.int .i64 (walkF (walkF ep ps (cs.take k)).1.1 (walkF ep ps (cs.take k)).1.2 (cs.drop k)).1.1, .slice ad' (walkF (walkF ep ps (cs.take k)).1.1 (walkF ep ps (cs.take k)).1.2 (cs.drop k)).1.2.length cp'], .int .i64 ((walkF (walkF ep ps (cs.take k)).1.1 (walkF ep ps (cs.take k)).1.2 (cs.drop k)).2.1 : Int), .int .i64 (walkF (walkF ep ps (cs.take k)).1.1 (walkF ep ps (cs.take k)).1.2 (cs.drop k)).2.2]) ∧ (PairsIn w' ad' (walkF (walkF ep ps (cs.take k)).1.1 (walkF ep ps (cs.take k)).1.2 (cs.drop k)).1.2 ∧ Below u.heap.size u w') ∧ ∀ x, ad' = some x → u.heap.size ≤ x.block ∧ x.block < w'.heap.size := fun u ad cp hu hv =>
        hW u _ _ _ ad cp (restAd ca cc k) (cs.drop k) (m - k) (cc - k) rfl (by unfold maxLen; omega) (by rw [List.length_drop, hcn]) (by omega) (fun c hc => hcz c (List.mem_of_mem_drop hc)) hu (hv.rest cc k (fun e => by omega))
      have hL4 := walkF_n (walkF ep ps (cs.take k)).1.1 (walkF ep ps (cs.take k)).1.2 (cs.drop k)
      rw [List.length_drop, hcn] at hL4
      have hL3 := walkF_len (walkF ep ps (cs.take k)).1.1 (walkF ep ps (cs.take k)).1.2 (cs.drop k)
      rw [hw] at HA hL1
      generalize walkF ep ps (cs.take k) = F at HA HB hf hq hL1 hL2 hL3 hL4 hCw
      obtain ⟨⟨Z, M⟩, q, G⟩ := F
      simp only at HA HB hf hq hL1 hL2 hL3 hL4 hCw
      subst hq
      generalize walkF Z M (cs.drop q) = F2 at HA hL1 hL3 hL4 hCw
      obtain ⟨⟨Z2, M2⟩, q2, G2⟩ := F2
      simp only at HA hL1 hL3 hL4 hCw
      obtain ⟨N, eN⟩ : ∃ N, N = M.length := ⟨_, rfl⟩
      obtain ⟨N2, eN2⟩ : ∃ N, N = M2.length := ⟨_, rfl⟩
      rw [← eN] at HB hL2 hCw
      rw [← eN2] at HA hL1 hCw hL3
      have HN2 : Hid (M2.length = N2 ∧ N2 ≤ maxLen) := hid ⟨eN2.symm, by unfold maxLen; omega⟩
      have hG : G = 0 := hf
      subst hG
      rw [show ((q2 + q : Nat) : Int) = (q : Int) + (q2 : Int) by omega] at HA
      have hq20 : (q : Int) + (q2 : Int) ≤ 20 := by omega
      have hq2 : (0 : Int) ≤ (q2 : Int) := Int.natCast_nonneg _
      have HC := hid hCw
      clear hP hC hn hm hcn hcm hcz h20 hW hw hL2 hL1 hL3 hL4 eN eN2 hCw hf
      go_enter Try.func8, Try.ntmps8
      go_wp2_with (first
        | (go_at_call 9; refine (alives_any _).mono ?_; rintro e w1 ⟨rfl, hb1⟩; have H1 := hid hb1; clear hb1; have c1 := (HF.out.keep H1.out).c0; have d1 := (HF.out.keep H1.out).c1)
        | (go_at_call 20; refine (HA.out _ (by exact HJ.out.keep H1.out (Nat.le_refl _)) (by exact HK.out.keep H1.out (Nat.le_refl _))).mono ?_; rintro e w2 ⟨ad2, cp2, rfl, hi2, _⟩; have H2 := hid (And.intro hi2.1 (H1.out.trans (hi2.2.mono H1.out.size))); clear hi2 c1 d1))
      obtain ⟨wa, ea⟩ : ∃ wa, wa = w2.alloc (.cells #[.int .i64 Z2, .slice ad2 N2 cp2] 24) := ⟨_, rfl⟩
      have H2a : Hid (PpAt wa w.heap.size ep (.slice a n cap) 24 ∧ PairsIn wa a ps ∧ StrsIn wa ca cs ∧ PpAt wa w2.heap.size Z2 (.slice ad2 N2 cp2) 24 ∧ PairsIn wa ad2 M2 ∧ Below w.heap.size w wa) := hid (by
        rw [ea]
        have k1 := ((Below.refl w.heap.size w).alloc (Nat.le_refl _) (.cells #[.int .i64 ep, .slice a n cap] 24)).trans (H2.out.2.mono (by simp))
        exact ⟨(HF.out.keep H2.out.2).alloc _, (HJ.out.keep H2.out.2 (Nat.le_refl _)).alloc _, (HK.out.keep H2.out.2 (Nat.le_refl _)).alloc _, PpAt.new _ _ _ _, H2.out.1.alloc _, k1.alloc k1.size _⟩)
      obtain ⟨ba, eba⟩ : ∃ ba, ba = w2.heap.size := ⟨_, rfl⟩
      rw [← eba] at H2a
      rw [← ea]
      try rw [← eba]
      clear ea eba H2 H1 HF HJ HK
      have c2 := H2a.out.1.c0
      have d2 := H2a.out.1.c1
      have c2a : ∀ o : Obj, (wa.alloc o).cell? ⟨w.heap.size, 0, none⟩ = some (.int .i64 ep) := fun o => (H2a.out.1.alloc o).c0
      have d2a : ∀ o : Obj, (wa.alloc o).cell? ⟨w.heap.size, 1, none⟩ = some (.slice a n cap) := fun o => (H2a.out.1.alloc o).c1
      apply by_key
      case m =>
        intro key
        go_region_law
          (go_simp; go_at_call 20
           refine (HB.out _ _ (by first | exact H2a.out.2.1.keep (Below.refl _ _).drew (Nat.le_refl _) | exact H2a.out.2.1.keep ((Below.refl _ _).alloc (Nat.le_refl _) _).drew (Nat.le_refl _)) (by first | exact H2a.out.2.2.1.keep (Below.refl _ _).drew (Nat.le_refl _) | exact H2a.out.2.2.1.keep ((Below.refl _ _).alloc (Nat.le_refl _) _).drew (Nat.le_refl _))).mono ?_
           rintro e w3 ⟨ad3, cp3, rfl, hi3, hf3⟩
           have H3 := hid (And.intro hi3 hf3)
           clear hi3 hf3
           (first | (have b0 : w3.cell? ⟨wa.heap.size, 0, none⟩ = some (.int .i64 0) := (H3.out.1.2.cell (p := ⟨wa.heap.size, 0, none⟩) (by simp)).trans (cell_two (heap_alloc_last wa (.cells #[.int .i64 0, .slice none 0 0] 24))).1; have b1 : w3.cell? ⟨wa.heap.size, 1, none⟩ = some (.slice none 0 0) := (H3.out.1.2.cell (p := ⟨wa.heap.size, 1, none⟩) (by simp)).trans (cell_two (heap_alloc_last wa (.cells #[.int .i64 0, .slice none 0 0] 24))).2; have f0 : w3.frozen? ⟨wa.heap.size, 0, none⟩ = false := free_at ((H3.out.1.2.block wa.heap.size (by simp)).trans (heap_alloc_last wa (.cells #[.int .i64 0, .slice none 0 0] 24))) 0; have f1 : w3.frozen? ⟨wa.heap.size, 1, none⟩ = false := free_at ((H3.out.1.2.block wa.heap.size (by simp)).trans (heap_alloc_last wa (.cells #[.int .i64 0, .slice none 0 0] 24))) 1) | skip))
        all_goals
          first
            | (have hZ := PbSt.a (Z := Z) (N := N) (cp := cp3) H3.out.1 (fun x hx => (H3.out.2 x hx).2)
               obtain ⟨b, eb⟩ : ∃ b, b = w3.heap.size := ⟨_, rfl⟩
               obtain ⟨wz, ez⟩ : ∃ wz, wz = w3.alloc (.cells #[.int .i64 Z, .slice ad3 N cp3] 24) := ⟨_, rfl⟩
               rw [← eb, ← ez] at hZ
               rw [← eb, ← ez]
               have HZ := hid hZ
               clear hZ eb ez H3)
            | (have hZ := PbSt.b (Z := Z) (N := N) (cp := cp3) H3.out.1 (fun x hx => by have := (H3.out.2 x hx).1; simp at this; omega)
               obtain ⟨b, eb⟩ : ∃ b, b = wa.heap.size := ⟨_, rfl⟩
               obtain ⟨wz, ez⟩ : ∃ wz, wz = (w3.setCell ⟨wa.heap.size, 0, none⟩ (.int .i64 Z)).setCell ⟨wa.heap.size, 1, none⟩ (.slice ad3 N cp3) := ⟨_, rfl⟩
               rw [← ez, ← eb] at hZ
               rw [← ez, ← eb]
               have HZ := hid hZ
               clear b0 b1 f0 f1 hZ eb ez H3)
          revert b ad3 cp3 wz HZ
          exact key.out
      case k =>
        intro ad3 cp3 b wz HZ
        have HE := hid (H2a.out.2.2.2.2.2.trans (HZ.out.bel.mono H2a.out.2.2.2.2.2.size))
        have HKb := hid (H2a.out.2.2.1.keep HZ.out.bel (Nat.le_refl _))
        have HPa := hid (And.intro (H2a.out.2.2.2.1.keep HZ.out.bel) (H2a.out.2.2.2.2.1.keep HZ.out.bel (Nat.le_refl _)))
        clear c2 d2 c2a d2a
        obtain ⟨wb, ewb⟩ : ∃ wb, wb = wz := ⟨_, rfl⟩
        rw [← ewb] at HZ HE HKb HPa
        rw [← ewb]
        clear ewb H2a
        have y0 := HZ.out.pp.c0
        have y1 := HZ.out.pp.c1
        obtain ⟨bb, ebb⟩ : ∃ bb, bb = b := ⟨_, rfl⟩
        rw [← ebb] at HZ y0 y1
        rw [← ebb]
        clear ebb
        go_wp2_with fail
        have y0a : ∀ o : Obj, (wb.alloc o).cell? ⟨bb, 0, none⟩ = some (.int .i64 Z) := fun o => (HZ.out.pp.alloc o).c0
        have y1a : ∀ o : Obj, (wb.alloc o).cell? ⟨bb, 1, none⟩ = some (.slice ad3 N cp3) := fun o => (HZ.out.pp.alloc o).c1
        apply by_key
        case m =>
          intro key
          go_region_law
            (go_simp; go_at_call 20
             refine (HC.out _ _ _ (by first | exact HZ.out.own.keep (Below.refl _ _).drew (Nat.le_refl _) | exact HZ.out.own.keep ((Below.refl _ _).alloc (Nat.le_refl _) _).drew (Nat.le_refl _)) (by first | exact HKb.out.keep (Below.refl _ _).drew (Nat.le_refl _) | exact HKb.out.keep ((Below.refl _ _).alloc (Nat.le_refl _) _).drew (Nat.le_refl _))).mono ?_
             rintro e w4 ⟨ad4, cp4, rfl, hi4, hf4⟩
             have H4 := hid (And.intro hi4 hf4)
             clear hi4 hf4
             (first | (have b0 : w4.cell? ⟨wb.heap.size, 0, none⟩ = some (.int .i64 0) := (H4.out.1.2.cell (p := ⟨wb.heap.size, 0, none⟩) (by simp)).trans (cell_two (heap_alloc_last wb (.cells #[.int .i64 0, .slice none 0 0] 24))).1; have b1 : w4.cell? ⟨wb.heap.size, 1, none⟩ = some (.slice none 0 0) := (H4.out.1.2.cell (p := ⟨wb.heap.size, 1, none⟩) (by simp)).trans (cell_two (heap_alloc_last wb (.cells #[.int .i64 0, .slice none 0 0] 24))).2; have f0 : w4.frozen? ⟨wb.heap.size, 0, none⟩ = false := free_at ((H4.out.1.2.block wb.heap.size (by simp)).trans (heap_alloc_last wb (.cells #[.int .i64 0, .slice none 0 0] 24))) 0; have f1 : w4.frozen? ⟨wb.heap.size, 1, none⟩ = false := free_at ((H4.out.1.2.block wb.heap.size (by simp)).trans (heap_alloc_last wb (.cells #[.int .i64 0, .slice none 0 0] 24))) 1) | skip))
          all_goals
            first
              | (have hZ := PbSt.a (Z := Z2) (N := N2) (cp := cp4) H4.out.1 (fun x hx => (H4.out.2 x hx).2)
                 obtain ⟨b, eb⟩ : ∃ b, b = w4.heap.size := ⟨_, rfl⟩
                 obtain ⟨wz, ez⟩ : ∃ wz, wz = w4.alloc (.cells #[.int .i64 Z2, .slice ad4 N2 cp4] 24) := ⟨_, rfl⟩
                 rw [← eb, ← ez] at hZ
                 rw [← eb, ← ez]
                 have HY := hid hZ
                 clear hZ eb ez H4)
              | (have hZ := PbSt.b (Z := Z2) (N := N2) (cp := cp4) H4.out.1 (fun x hx => by have := (H4.out.2 x hx).1; simp at this; omega)
                 obtain ⟨b, eb⟩ : ∃ b, b = wb.heap.size := ⟨_, rfl⟩
                 obtain ⟨wz, ez⟩ : ∃ wz, wz = (w4.setCell ⟨wb.heap.size, 0, none⟩ (.int .i64 Z2)).setCell ⟨wb.heap.size, 1, none⟩ (.slice ad4 N2 cp4) := ⟨_, rfl⟩
                 rw [← ez, ← eb] at hZ
                 rw [← ez, ← eb]
                 have HY := hid hZ
                 clear b0 b1 f0 f1 hZ eb ez H4)
            revert b ad4 cp4 wz HY
            exact key.out
        case k =>
          intro ad4 cp4 c wy HY
          have u0 := (HPa.out.1.keep HY.out.bel).c0
          have u1 := (HPa.out.1.keep HY.out.bel).c1
          have v0 := HY.out.pp.c0
          have v1 := HY.out.pp.c1
          clear y0 y1 y0a y1a
          go_wp2_with (go_at_call 14; refine (xsame_yes _ _ _ _ _ _ M2 HN2.out.1 HN2.out.2 _ (by exact HPa.out.2.keep HY.out.bel (Nat.le_refl _)) (by exact HY.out.own)).mono ?_; rintro e w6 ⟨rfl, hb6⟩; have H6 := hid hb6; clear hb6)
          all_goals
            go_ret
            have k1 := HE.out.trans (HY.out.bel.mono HE.out.size)
            exact ⟨rfl, k1.trans (H6.out.mono k1.size)⟩
    · obtain ⟨hw, hlt⟩ := walkF_stop ep ps cs k (by omega) hf
      rw [hw] at HA hL1
      generalize walkF ep ps (cs.take k) = F at HA HB hf hlt hL1
      obtain ⟨⟨Z, M⟩, q, G⟩ := F
      simp only at HA HB hf hlt hL1
      obtain ⟨N, eN⟩ : ∃ N, N = M.length := ⟨_, rfl⟩
      rw [← eN] at HA HB hL1
      have HN : Hid (M.length = N ∧ N ≤ maxLen) := hid ⟨eN.symm, by unfold maxLen; omega⟩
      have hor : (q : Int) < (k : Int) ∨ (q : Int) = 0 := by omega
      clear hP hC hn hm hcn hcm hcz h20 hW hw hL2 hL1 eN hlt
      go_enter Try.func8, Try.ntmps8
      go_wp2_with (first
        | (go_at_call 9; refine (alives_any _).mono ?_; rintro e w1 ⟨rfl, hb1⟩; have H1 := hid hb1; clear hb1; have c1 := (HF.out.keep H1.out).c0; have d1 := (HF.out.keep H1.out).c1)
        | (go_at_call 20; refine (HA.out _ (by exact HJ.out.keep H1.out (Nat.le_refl _)) (by exact HK.out.keep H1.out (Nat.le_refl _))).mono ?_; rintro e w2 ⟨ad2, cp2, rfl, hi2, _⟩; have H2 := hid (And.intro hi2.1 (H1.out.trans (hi2.2.mono H1.out.size))); clear hi2 c1 d1))
      obtain ⟨wa, ea⟩ : ∃ wa, wa = w2.alloc (.cells #[.int .i64 Z, .slice ad2 N cp2] 24) := ⟨_, rfl⟩
      have H2a : Hid (PpAt wa w.heap.size ep (.slice a n cap) 24 ∧ PairsIn wa a ps ∧ StrsIn wa ca cs ∧ PpAt wa w2.heap.size Z (.slice ad2 N cp2) 24 ∧ PairsIn wa ad2 M ∧ Below w.heap.size w wa) := hid (by
        rw [ea]
        have k1 := ((Below.refl w.heap.size w).alloc (Nat.le_refl _) (.cells #[.int .i64 ep, .slice a n cap] 24)).trans (H2.out.2.mono (by simp))
        exact ⟨(HF.out.keep H2.out.2).alloc _, (HJ.out.keep H2.out.2 (Nat.le_refl _)).alloc _, (HK.out.keep H2.out.2 (Nat.le_refl _)).alloc _, PpAt.new _ _ _ _, H2.out.1.alloc _, k1.alloc k1.size _⟩)
      obtain ⟨ba, eba⟩ : ∃ ba, ba = w2.heap.size := ⟨_, rfl⟩
      rw [← eba] at H2a
      rw [← ea]
      try rw [← eba]
      clear ea eba H2 H1 HF HJ HK
      have c2 := H2a.out.1.c0
      have d2 := H2a.out.1.c1
      have c2a : ∀ o : Obj, (wa.alloc o).cell? ⟨w.heap.size, 0, none⟩ = some (.int .i64 ep) := fun o => (H2a.out.1.alloc o).c0
      have d2a : ∀ o : Obj, (wa.alloc o).cell? ⟨w.heap.size, 1, none⟩ = some (.slice a n cap) := fun o => (H2a.out.1.alloc o).c1
      apply by_key
      case m =>
        intro key
        go_region_law
          (go_simp; go_at_call 20
           refine (HB.out _ _ (by first | exact H2a.out.2.1.keep (Below.refl _ _).drew (Nat.le_refl _) | exact H2a.out.2.1.keep ((Below.refl _ _).alloc (Nat.le_refl _) _).drew (Nat.le_refl _)) (by first | exact H2a.out.2.2.1.keep (Below.refl _ _).drew (Nat.le_refl _) | exact H2a.out.2.2.1.keep ((Below.refl _ _).alloc (Nat.le_refl _) _).drew (Nat.le_refl _))).mono ?_
           rintro e w3 ⟨ad3, cp3, rfl, hi3, hf3⟩
           have H3 := hid (And.intro hi3 hf3)
           clear hi3 hf3
           (first | (have b0 : w3.cell? ⟨wa.heap.size, 0, none⟩ = some (.int .i64 0) := (H3.out.1.2.cell (p := ⟨wa.heap.size, 0, none⟩) (by simp)).trans (cell_two (heap_alloc_last wa (.cells #[.int .i64 0, .slice none 0 0] 24))).1; have b1 : w3.cell? ⟨wa.heap.size, 1, none⟩ = some (.slice none 0 0) := (H3.out.1.2.cell (p := ⟨wa.heap.size, 1, none⟩) (by simp)).trans (cell_two (heap_alloc_last wa (.cells #[.int .i64 0, .slice none 0 0] 24))).2; have f0 : w3.frozen? ⟨wa.heap.size, 0, none⟩ = false := free_at ((H3.out.1.2.block wa.heap.size (by simp)).trans (heap_alloc_last wa (.cells #[.int .i64 0, .slice none 0 0] 24))) 0; have f1 : w3.frozen? ⟨wa.heap.size, 1, none⟩ = false := free_at ((H3.out.1.2.block wa.heap.size (by simp)).trans (heap_alloc_last wa (.cells #[.int .i64 0, .slice none 0 0] 24))) 1) | skip))
        all_goals
          first
            | (have hZ := PbSt.a (Z := Z) (N := N) (cp := cp3) H3.out.1 (fun x hx => (H3.out.2 x hx).2)
               obtain ⟨b, eb⟩ : ∃ b, b = w3.heap.size := ⟨_, rfl⟩
               obtain ⟨wz, ez⟩ : ∃ wz, wz = w3.alloc (.cells #[.int .i64 Z, .slice ad3 N cp3] 24) := ⟨_, rfl⟩
               rw [← eb, ← ez] at hZ
               rw [← eb, ← ez]
               have HZ := hid hZ
               clear hZ eb ez H3)
            | (have hZ := PbSt.b (Z := Z) (N := N) (cp := cp3) H3.out.1 (fun x hx => by have := (H3.out.2 x hx).1; simp at this; omega)
               obtain ⟨b, eb⟩ : ∃ b, b = wa.heap.size := ⟨_, rfl⟩
               obtain ⟨wz, ez⟩ : ∃ wz, wz = (w3.setCell ⟨wa.heap.size, 0, none⟩ (.int .i64 Z)).setCell ⟨wa.heap.size, 1, none⟩ (.slice ad3 N cp3) := ⟨_, rfl⟩
               rw [← ez, ← eb] at hZ
               rw [← ez, ← eb]
               have HZ := hid hZ
               clear b0 b1 f0 f1 hZ eb ez H3)
          revert b ad3 cp3 wz HZ
          exact key.out
      case k =>
        intro ad3 cp3 b wz HZ
        have x0 := (H2a.out.2.2.2.1.keep HZ.out.bel).c0
        have x1 := (H2a.out.2.2.2.1.keep HZ.out.bel).c1
        have y0 := HZ.out.pp.c0
        have y1 := HZ.out.pp.c1
        have HE := hid (H2a.out.2.2.2.2.2.trans (HZ.out.bel.mono H2a.out.2.2.2.2.2.size))
        clear c2 d2 c2a d2a
        by_cases hq : (q : Int) < (k : Int)
        · clear hor
          go_wp2_with (go_at_call 14; refine (xsame_yes _ _ _ _ _ _ M HN.out.1 HN.out.2 _ (by exact H2a.out.2.2.2.2.1.keep HZ.out.bel (Nat.le_refl _)) (by exact HZ.out.own)).mono ?_; rintro e w6 ⟨rfl, hb6⟩; have H6 := hid hb6; clear hb6)
          go_ret
          exact ⟨rfl, HE.out.trans (H6.out.mono HE.out.size)⟩
        · have hq0 : (q : Int) = 0 := by omega
          clear hor
          go_wp2
          go_ret
          exact ⟨rfl, HE.out⟩
end Go.Proofs.Ytchlmcpnjpllnaa
