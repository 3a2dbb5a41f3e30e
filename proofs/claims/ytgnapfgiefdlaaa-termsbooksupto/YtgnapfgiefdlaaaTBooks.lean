/- TermsBooks, walked. -/
import Derived.Test.YtgnapfgiefdlaaaTeQ
import Derived.Test.YtgnapfgiefdlaaaTeL
import Derived.Test.YtgnapfgiefdlaaaTeG
namespace Go.Proofs.Ytgnapfgiefdlaaa
open Go.RowKit

/-- Lists of signatures lie at a. -/
def ListsIn (w : World) (a : Option Addr) (ls : List (List (Int × ByteArray))) : Prop :=
  ls = [] ∨ ∃ g off, a = some ⟨g, off, none⟩ ∧ g < w.heap.size ∧ ∀ j l, ls[j]? = some l → ∃ ad cap, w.cell? ⟨g, off + j, none⟩ = some (.slice ad l.length cap) ∧ PairsIn w ad l
theorem ListsIn.at {w : World} {a : Option Addr} {ls : List (List (Int × ByteArray))} (h : ListsIn w a ls) (j : Nat) (l : List (Int × ByteArray)) (hj : ls[j]? = some l) :
    ∃ g off ad cap, a = some ⟨g, off, none⟩ ∧ g < w.heap.size ∧ w.cell? ⟨g, off + j, none⟩ = some (.slice ad l.length cap) ∧ PairsIn w ad l := by
  rcases h with h | ⟨g, off, ha, hg, hc⟩
  · rw [h] at hj; simp at hj
  · obtain ⟨ad, cap, h1, h2⟩ := hc j l hj
    exact ⟨g, off, ad, cap, ha, hg, h1, h2⟩
/-- The book, and the document's list. -/
structure BoSt (w0 w : World) (F : List Nat) (v : Value) (Lb : List (Int × ByteArray)) (ad : Option Addr) (cp : Nat) (Lv : List (Int × ByteArray)) : Prop where
  bk : BkAt F w v Lb
  far : ∀ b, b ∈ F → w0.heap.size ≤ b
  own : w.ownsRow w0.heap.size 34 2 (.slice ad Lv.length cp) Lv.length (pC Lv)
  sep : ∀ g, (Value.slice ad Lv.length cp).ownBlock = some g → g ∉ F
  bel : Below w0.heap.size w0 w
theorem BoSt.keep {w0 w w' : World} {F : List Nat} {v : Value} {Lb : List (Int × ByteArray)} {ad : Option Addr} {cp : Nat} {Lv : List (Int × ByteArray)} (h : BoSt w0 w F v Lb ad cp Lv) (hb : Below w.heap.size w w') : BoSt w0 w' F v Lb ad cp Lv :=
  ⟨h.bk.keep hb.size (fun k hk => hb.block k (h.bk.lt k hk)), h.far, ownsRow_keep h.own hb, h.sep, h.bel.trans (hb.mono h.bel.size)⟩
theorem BoSt.pairs {w0 w : World} {F : List Nat} {v : Value} {Lb : List (Int × ByteArray)} {ad : Option Addr} {cp : Nat} {Lv : List (Int × ByteArray)} (h : BoSt w0 w F v Lb ad cp Lv) : PairsIn w ad Lv := by
  obtain ⟨a2, c2, e, hp⟩ := own_pairsT h.own
  cases e
  exact hp
theorem pairs_low {w : World} {ad : Option Addr} {l : List (Int × ByteArray)} (h : PairsIn w ad l) : ∀ x, ad = some x → l ≠ [] → x.block < w.heap.size := fun x hx hne => by
  rcases h with h | ⟨g, off, ha, hg, _⟩
  · exact absurd h hne
  · rw [hx] at ha; cases ha; exact hg
theorem bo_note {w0 u : World} {F : List Nat} {v : Value} {L Lv : List (Int × ByteArray)} {ad : Option Addr} {cp : Nat} (h : BoSt w0 u F v L ad cp Lv) (a : Option Addr) (n cap : Nat) (ls : List (Int × ByteArray)) (hn : ls.length = n) (hm : (L.length + n) * 24 ≤ 140737488355328) (hf : ∀ p, p ∈ ls → fitP p) (hP : PairsIn w0 a ls) :
    Calls Try.prog 21 #[v, .slice a n cap] u fun e w' => e = .returned (.tuple #[]) ∧ ∃ F', BoSt w0 w' F' v (noted L ls) ad cp Lv := by
  refine (tnote_any F v L a n cap ls hn hm hf u h.bk (hP.keep h.bel (Nat.le_refl _)) (fun x hx hne hmem => ?_)).mono ?_
  · have h1 := pairs_low hP x hx hne
    have h2 := h.far _ hmem
    omega
  · rintro e w' ⟨rfl, F', hB, hF, hO⟩
    have hkb : Below w0.heap.size u w' := hO.below h.bel.size h.far
    refine ⟨rfl, F', hB, fun b hb => ?_, ?_, fun g hg hm => ?_, h.bel.trans hkb⟩
    · rcases hF b hb with h1 | h1
      · exact h.far b h1
      · have := h.bel.size; omega
    · refine ⟨h.own.1, ?_⟩
      rcases h.own.2 with hx | ⟨g, c, cur, hv, hg, hh, hr⟩
      · exact .inl hx
      · exact .inr ⟨g, c, cur, hv, hg, (hO.block g (lt_of_blk hh) (h.sep g (by rw [hv]; rfl))).trans hh, hr⟩
    · rcases hF g hm with h1 | h1
      · exact h.sep g hg h1
      · have := (h.own.lt g hg).2
        omega
theorem bo_noted {w0 u : World} {F : List Nat} {v : Value} {Lb L : List (Int × ByteArray)} {ad : Option Addr} {cp : Nat} (h : BoSt w0 u F v Lb ad cp L) (a : Option Addr) (n cap : Nat) (ls : List (Int × ByteArray)) (hn : ls.length = n) (hm : (L.length + n) * 24 ≤ 140737488355328) (hP : PairsIn w0 a ls) :
    Calls Try.prog 22 #[.slice ad L.length cp, .slice a n cap] u fun e w' => ∃ ad' cp', e = .returned (.slice ad' (noted L ls).length cp') ∧ BoSt w0 w' F v Lb ad' cp' (noted L ls) := by
  refine (wnoted_any w0.heap.size _ L.length L rfl a n cap ls hn hm u h.bel.size h.own (hP.keep h.bel (Nat.le_refl _)) (fun x hx hne e => ?_)).mono ?_
  · have h1 := pairs_low hP x hx hne
    have h2 := (h.own.lt _ e).1
    omega
  · rintro e w' ⟨v', rfl, hN⟩
    obtain ⟨ad', cp', hv, hp⟩ := hN.pairs
    subst hv
    have hne : ∀ k, k ∈ F → some k ≠ (Value.slice ad L.length cp).ownBlock := fun k hk e => h.sep k e.symm hk
    refine ⟨ad', cp', rfl, h.bk.keep hN.grown.size (fun k hk => hN.grown.block k (h.bk.lt k hk) (hne k hk)), h.far, hN.own, fun g hg hm => ?_, h.bel.grown hN.grown h.bel.size (fun k hk => (h.own.lt k hk).1)⟩
    rcases hN.at_ with e | ⟨k, e, hk⟩
    · exact h.sep g (e ▸ hg) hm
    · rw [hg] at e
      cases e
      have := h.bk.lt g hm
      omega
theorem noted_flat (ls : List (List (Int × ByteArray))) (j : Nat) (l : List (Int × ByteArray)) (hj : ls[j]? = some l) : noted [] (ls.take (j + 1)).flatten = noted (noted [] (ls.take j).flatten) l := by
  rw [List.take_add_one, hj, List.flatten_append, ← noted_app]
  simp
theorem flat_len (ls : List (List (Int × ByteArray))) (j : Nat) (l : List (Int × ByteArray)) (hj : ls[j]? = some l) : (noted [] (ls.take j).flatten).length + l.length ≤ ls.flatten.length := by
  have h1 := noted_len (ls.take j).flatten []
  have h2 : ls = ls.take j ++ l :: ls.drop (j + 1) := by
    have h3 := List.getElem?_eq_some_iff.1 hj
    conv => lhs; rw [← List.take_append_drop j ls]
    rw [List.drop_eq_getElem_cons h3.1, h3.2]
  have h4 : ls.flatten.length = (ls.take j).flatten.length + (l.length + (ls.drop (j + 1)).flatten.length) := by
    conv => lhs; rw [h2]
    rw [List.flatten_append, List.length_append, List.flatten_cons, List.length_append]
  rw [List.length_nil, Nat.zero_add] at h1
  omega
set_option maxRecDepth 100000 in
set_option maxHeartbeats 6400000 in
theorem termsBooks_walk (a : Option Addr) (k ck : Nat) (lls : List (List (Int × ByteArray))) (hk : lls.length = k) (hkm : k ≤ maxLen) (hT : lls.flatten.length * 24 ≤ 140737488355328) (hfl : ∀ l, l ∈ lls → ∀ p, p ∈ l → fitP p) (ab : Option Addr) (nb cb : Nat) (bad : List Int) (hb : bad.length = nb) (hb8 : nb * 8 ≤ 140737488355328)
    (sa : Option Addr) (m cs : Nat) (ss : List (Int × ByteArray)) (hs : ss.length = m) (hsm : m ≤ maxLen) (hfs : ∀ p, p ∈ ss → fitP p) (w : World) (hA : ListsIn w a lls) (hI : IntsIn w ab bad) (hS : PairsIn w sa ss) :
    Calls Try.prog 7 #[.slice a k ck, .slice ab nb cb, .slice sa m cs] w fun e w' => e = .returned (.bool true) ∧ Below w.heap.size w w' := by
  have hbm : nb ≤ maxLen := by unfold maxLen; omega
  have HM8 := hid hb8
  clear hb8
  have hk63 : (k : Int) ≤ 9223372036854775807 := by unfold maxLen at hkm; omega
  have hm63 : (m : Int) ≤ 9223372036854775807 := by unfold maxLen at hsm; omega
  have HLm : Hid (∀ j, j ≤ k → (noted [] (lls.take j).flatten).length ≤ maxLen) := hid (fun j hj => by
    have h1 := noted_len (lls.take j).flatten []
    rw [List.length_nil, Nat.zero_add] at h1
    have h2 : lls.flatten.length = (lls.take j).flatten.length + (lls.drop j).flatten.length := by
      conv => lhs; rw [← List.take_append_drop j lls]
      rw [List.flatten_append, List.length_append]
    unfold maxLen
    omega)
  have HDb : Hid (∀ (F : List Nat) (v : Value) (L : List (Int × ByteArray)) (ad : Option Addr) (cp : Nat) (Lv : List (Int × ByteArray)) (u : World), BoSt w u F v L ad cp Lv → Calls Try.prog 24 #[v, .slice ab nb cb, .slice sa m cs] u fun e w' => e = .returned (.bool (derivB L bad ss)) ∧ BoSt w w' F v L ad cp Lv) := hid (fun F v L ad cp Lv u hu =>
    (tderivable_any F v L ab nb cb bad hb HM8.out sa m cs ss hs hsm hfs u hu.bk (hI.keep hu.bel (Nat.le_refl _)) (hS.keep hu.bel (Nat.le_refl _))).mono fun _ _ ⟨he, hb⟩ => ⟨he, hu.keep hb⟩)
  have HDr : Hid (∀ (F : List Nat) (v : Value) (L : List (Int × ByteArray)) (ad : Option Addr) (cp : Nat) (Lv : List (Int × ByteArray)) (u : World), Lv.length ≤ maxLen → BoSt w u F v L ad cp Lv → Calls Try.prog 25 #[.slice ad Lv.length cp, .slice ab nb cb, .slice sa m cs] u fun e w' => e = .returned (.bool (derivB Lv bad ss)) ∧ BoSt w w' F v L ad cp Lv) := hid (fun F v L ad cp Lv u hl hu =>
    (wderivable_any ad Lv.length cp Lv rfl hl ab nb cb bad hb hbm sa m cs ss hs hsm u hu.pairs (hI.keep hu.bel (Nat.le_refl _)) (hS.keep hu.bel (Nat.le_refl _))).mono fun _ _ ⟨he, hb⟩ => ⟨he, hu.keep hb⟩)
  have HLn : Hid (∀ (F : List Nat) (v : Value) (L : List (Int × ByteArray)) (ad : Option Addr) (cp : Nat) (Lv : List (Int × ByteArray)) (u : World), BoSt w u F v L ad cp Lv → Calls Try.prog 23 #[v] u fun e w' => e = .returned (.int .i64 (L.length : Int)) ∧ BoSt w w' F v L ad cp Lv) := hid (fun F v L ad cp Lv u hu =>
    (tlen_any F v L u hu.bk).mono fun _ _ ⟨he, hb⟩ => ⟨he, hu.keep hb⟩)
  have HFl := hid hfl
  have HFs := hid hfs
  have HX := hid (And.intro hA (And.intro hS (And.intro hk (And.intro hT hs))))
  clear hA hI hS hk hkm hT hb hbm hs hsm hfl hfs
  go_enter Try.func7, Try.ntmps7
  go_wp2_with (first
    | (go_at_call 9; refine (tlives_any _).mono ?_; rintro e w1 ⟨rfl, hb1⟩; have H1 := hid hb1; clear hb1)
    | (go_at_call 20; refine (tnew_any _).mono ?_; rintro e w2 ⟨v, F, rfl, hB2, hF2, hb2⟩; obtain ⟨gb, rfl⟩ := hB2.form; have H2 : Hid (BoSt w w2 F (.pointer (some ⟨gb, 0, none⟩)) [] none 0 []) := hid ⟨hB2, fun b hb => Nat.le_trans H1.out.size (hF2 b hb), ⟨rfl, .inl ⟨rfl, rfl⟩⟩, fun g hg => by simp [Value.ownBlock] at hg, H1.out.trans (hb2.mono H1.out.size)⟩; clear hB2 hF2 hb2))
  go_loopw [9, 8] (fun i lv wr => ∃ (j : Nat) (F' : List Nat) (ad : Option Addr) (cp : Nat), j ≤ k ∧ i = .int .i64 (j : Int) ∧ lv = .slice ad (noted [] (lls.take j).flatten).length cp ∧ BoSt w wr F' (.pointer (some ⟨gb, 0, none⟩)) (noted [] (lls.take j).flatten) ad cp (noted [] (lls.take j).flatten))
    (fun i _ _ => ((k : Int) - intOf i).toNat)
  case atStart => exact ⟨0, F, none, 0, by omega, rfl, rfl, H2.out⟩
  case round =>
    obtain ⟨j, F', ad, cp, hj, rfl, rfl, hG⟩ := hrel
    have HG := hid hG
    clear hG H2
    have hj0 : (0 : Int) ≤ (j : Int) := Int.natCast_nonneg _
    by_cases hjm : j = k
    · have hj1 : ¬ ((j : Int) < (k : Int)) := by omega
      have HLz := hid (HLm.out j hj)
      obtain ⟨L, eL⟩ : ∃ L, L = noted [] (lls.take j).flatten := ⟨_, rfl⟩
      rw [← eL] at HG HLz ⊢
      clear hj hjm eL
      go_wp2
      go_loopw [10] (fun i wr => ∃ (q : Nat), q ≤ m ∧ i = .int .i64 (q : Int) ∧ BoSt w wr F' (.pointer (some ⟨gb, 0, none⟩)) L ad cp L)
        (fun i _ => ((m : Int) - intOf i).toNat)
      case atStart => exact ⟨0, by omega, rfl, HG.out⟩
      case round =>
        obtain ⟨q, hq, rfl, hG2⟩ := hrel
        have HG2 := hid hG2
        clear hG2 HG
        have hq0 : (0 : Int) ≤ (q : Int) := Int.natCast_nonneg _
        by_cases hqm : q = m
        · have hq1 : ¬ ((q : Int) < (m : Int)) := by omega
          clear hq hqm
          go_wp2_with (first
            | (go_at_call 24; refine (HDb.out _ _ _ _ _ _ _ (by exact HG2.out)).mono ?_; rintro e w3 ⟨rfl, hg3⟩; have H3 := hid hg3; clear hg3)
            | (go_at_call 25; refine (HDr.out _ _ _ _ _ _ _ (by exact HLz.out) (by exact H3.out)).mono ?_; rintro e w4 ⟨rfl, hg4⟩; have H4 := hid hg4; clear hg4))
          go_ret
          exact ⟨by simp, H4.out.bel⟩
        · have hq1 : (q : Int) < (m : Int) := by omega
          have hql : q < ss.length := by rw [HX.out.2.2.2.2]; omega
          obtain ⟨g, off, rfl, hg, hc1, hc2⟩ := HX.out.2.1.at q _ (getP_some hql)
          have hfit : fitP (idOf ss q, rtOf ss q) := HFs.out _ (List.mem_of_getElem? (getP_some hql))
          generalize idOf ss q = x at hc1 hfit
          generalize rtOf ss q = r at hc2 hfit
          have HCl : Hid (∀ y : Cls wr, BoSt w y.1 F' (.pointer (some ⟨gb, 0, none⟩)) L ad cp L) := hid (fun y => HG2.out.keep y.2)
          have k1 : ∀ y : Cls wr, y.1.cell? ⟨g, off + q * 2, none⟩ = some (.int .i64 x) := fun y => ((HCl.out y).bel.cell (p := ⟨g, _, none⟩) hg).trans hc1
          have k2 : ∀ y : Cls wr, y.1.cell? ⟨g, off + q * 2 + 1, none⟩ = some (.string r) := fun y => ((HCl.out y).bel.cell (p := ⟨g, _, none⟩) hg).trans hc2
          have HHs : Hid (∀ u : World, Below wr.heap.size wr u → Calls Try.prog 26 #[.pointer (some ⟨gb, 0, none⟩), .agg #[.int .i64 x, .string r]] u fun e w' => e = .returned (.bool (stands L (x, r))) ∧ Below u.heap.size u w') := hid (fun u hu => thas_any F' _ L x r hfit u (HG2.out.keep hu).bk)
          have HSt : Hid (∀ u : World, Below wr.heap.size wr u → Calls Try.prog 27 #[.slice ad L.length cp, .agg #[.int .i64 x, .string r]] u fun e w' => e = .returned (.bool (stands L (x, r))) ∧ Below u.heap.size u w') := hid (fun u hu => wstands_any ad L.length cp L rfl HLz.out x r u (HG2.out.keep hu).pairs)
          generalize stands L (x, r) = B at HHs HSt
          have HJ := hid (And.intro hq hqm)
          clear hq hqm hql hg hc1 hc2 hfit
          go_wp2
          haveI := Cls.ne wr
          refine wp_region_cls wr (by kernel_rfl) (by kernel_rfl) ?_
          repeat (go_big_quiet_step ((first
            | (go_at_call 26; exact Cls.of _ (fun u hu => HHs.out u hu))
            | (go_at_call 27; exact Cls.of _ (fun u hu => HSt.out u hu)))))
          refine wpQuiet_nil ?_
          rintro _ ⟨y, rfl⟩
          have H5 := hid (HCl.out y)
          clear k1 k2
          have hbb : (B != B) = false := by simp
          go_wp2
          go_roundw
          case rel => exact ⟨q + 1, by have := HJ.out; omega, by go_num, H5.out⟩
          case measure => simp [intOf]; omega
    · have hj1 : (j : Int) < (k : Int) := by omega
      have hjl : j < lls.length := by rw [HX.out.2.2.1]; omega
      obtain ⟨l, el⟩ : ∃ l, lls[j]? = some l := ⟨_, List.getElem?_eq_getElem hjl⟩
      obtain ⟨g, off, al, cl, rfl, hg, hcc, hpl⟩ := HX.out.1.at j l el
      have HN1 := hid (noted_flat lls j l el)
      have HLy := hid (HLm.out (j + 1) (by omega))
      have hfl := flat_len lls j l el
      have hb24 : ((noted [] (lls.take j).flatten).length + l.length) * 24 ≤ 140737488355328 := by have := HX.out.2.2.2.1; omega
      have kc : wr.cell? ⟨g, off + j, none⟩ = some (.slice al l.length cl) := (HG.out.bel.cell (p := ⟨g, _, none⟩) hg).trans hcc
      obtain ⟨L, eL⟩ : ∃ L, L = noted [] (lls.take j).flatten := ⟨_, rfl⟩
      obtain ⟨L2, eL2⟩ : ∃ L2, L2 = noted L l := ⟨_, rfl⟩
      rw [← eL] at HG HN1 hb24
      rw [← eL]
      rw [HN1.out, ← eL2] at HLy
      have HNt : Hid (∀ (F : List Nat) (u : World), BoSt w u F (.pointer (some ⟨gb, 0, none⟩)) L ad cp L → Calls Try.prog 21 #[.pointer (some ⟨gb, 0, none⟩), .slice al l.length cl] u fun e w' => e = .returned (.tuple #[]) ∧ ∃ F', BoSt w w' F' (.pointer (some ⟨gb, 0, none⟩)) L2 ad cp L) := hid (fun F u hu => by rw [eL2]; exact bo_note hu al l.length cl l rfl hb24 (HFl.out l (List.mem_of_getElem? el)) hpl)
      have HNd : Hid (∀ (F : List Nat) (u : World), BoSt w u F (.pointer (some ⟨gb, 0, none⟩)) L2 ad cp L → Calls Try.prog 22 #[.slice ad L.length cp, .slice al l.length cl] u fun e w' => ∃ ad' cp', e = .returned (.slice ad' L2.length cp') ∧ BoSt w w' F (.pointer (some ⟨gb, 0, none⟩)) L2 ad' cp' L2) := hid (fun F u hu => by rw [eL2] at hu ⊢; exact bo_noted hu al l.length cl l rfl hb24 hpl)
      have HN2 : Hid (noted [] (lls.take (j + 1)).flatten = L2) := hid (by rw [HN1.out, eL2])
      have HCk : Hid (∀ (u : World), Below w.heap.size w u → u.cell? ⟨g, off + j, none⟩ = some (.slice al l.length cl)) := hid (fun u hu => (hu.cell (p := ⟨g, _, none⟩) hg).trans hcc)
      have HJ := hid (And.intro hj hjm)
      clear hj hjm hjl el hg hcc hpl hfl hb24 eL eL2 HN1
      go_wp2_with (first
        | (go_at_call 21; refine (HNt.out _ _ (by exact HG.out)).mono ?_; rintro e w3 ⟨rfl, F3, hg3⟩; have H3 := hid hg3; clear hg3; have kc3 := HCk.out _ H3.out.bel)
        | (go_at_call 22; refine (HNd.out _ _ (by exact H3.out)).mono ?_; rintro e w4 ⟨ad4, cp4, rfl, hg4⟩; have H4 := hid hg4; clear hg4)
        | (go_at_call 23; refine (HLn.out _ _ _ _ _ _ _ (by exact H4.out)).mono ?_; rintro e w5 ⟨rfl, hg5⟩; have H5 := hid hg5; clear hg5)
        | (go_at_call 24; refine (HDb.out _ _ _ _ _ _ _ (by exact H5.out)).mono ?_; rintro e w6 ⟨rfl, hg6⟩; have H6 := hid hg6; clear hg6)
        | (go_at_call 25; refine (HDr.out _ _ _ _ _ _ _ (by exact HLy.out) (by exact H6.out)).mono ?_; rintro e w7 ⟨rfl, hg7⟩; have H7 := hid hg7; clear hg7; have hbb : (derivB L2 bad ss != derivB L2 bad ss) = false := (by simp)))
      go_roundw
      case rel => exact ⟨j + 1, _, ad4, cp4, by have := HJ.out; omega, by go_num, by rw [HN2.out], by rw [HN2.out]; exact H7.out⟩
      case measure => simp [intOf]; omega
end Go.Proofs.Ytgnapfgiefdlaaa
