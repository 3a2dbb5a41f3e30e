/- Texts laid together: SiA WsA WsB WsC WsP WsD WsE. -/
import Derived.Test.YtfjcpghepkmbfaaGa2
import Derived.Test.YtfjcpghepkmbfaaGa3
import Derived.BigQuiet
import Derived.Test.YtfjcpghepkmbfaaGb1
import Derived.Deep.DeepCutAuto
import Derived.Test.YtfjcpghepkmbfaaGa4
import Derived.Deep.DeepMust
/- The document's SameInts, of any two lists. -/
namespace Go.Proofs.Ytfjcpghepkmbfaa
open Go.RowKit

theorem take_grow {α : Type} {l1 l2 : List α} {j : Nat} {s : α} (h : l1.take j = l2.take j) (h1 : l1[j]? = some s) (h2 : l2[j]? = some s) : l1.take (j + 1) = l2.take (j + 1) := by
  obtain ⟨hj1, e1⟩ := List.getElem?_eq_some_iff.1 h1
  obtain ⟨hj2, e2⟩ := List.getElem?_eq_some_iff.1 h2
  rw [List.take_succ_eq_append_getElem hj1, List.take_succ_eq_append_getElem hj2, h, e1, e2]
theorem ne_of_at {α : Type} {l1 l2 : List α} {j : Nat} {s t : α} (h1 : l1[j]? = some s) (h2 : l2[j]? = some t) (h : s ≠ t) : l1 ≠ l2 := fun e => by
  rw [e, h2] at h1
  cases h1
  exact h rfl
set_option maxRecDepth 100000 in
set_option maxHeartbeats 3200000 in
theorem sameInts_dec (a1 a2 : Option Addr) (n1 n2 c1 c2 : Nat) (l1 l2 : List Int) (hn1 : l1.length = n1) (hn2 : l2.length = n2) (hm1 : n1 ≤ maxLen) (hm2 : n2 ≤ maxLen) (w : World) (h1 : IntsIn w a1 l1) (h2 : IntsIn w a2 l2) :
    Calls Try.prog 24 #[.slice a1 n1 c1, .slice a2 n2 c2] w fun e w' => e = .returned (.bool (decide (l1 = l2))) ∧ Below w.heap.size w w' := by
  by_cases hne : n1 = n2
  · subst hne
    have hm3 : (n1 : Int) ≤ 9223372036854775807 := by unfold maxLen at hm1; omega
    have HZ := hid (And.intro h1 (And.intro h2 (And.intro hn1 hn2)))
    clear h1 h2 hn1 hn2 hm1 hm2
    go_enter Try.func24, Try.ntmps24
    go_wp2
    go_loopw [5] (fun i wr => ∃ j : Nat, j ≤ n1 ∧ i = .int .i64 (j : Int) ∧ Below w.heap.size w wr ∧ l1.take j = l2.take j)
      (fun i _ => ((n1 : Int) - intOf i).toNat)
    case atStart => exact ⟨0, by omega, rfl, Below.refl _ _, rfl⟩
    case round =>
      obtain ⟨j, hj, rfl, hbel, htk⟩ := hrel
      have HB := hid (And.intro hbel htk)
      clear hbel htk
      by_cases hjn : j = n1
      · have hj1 : ¬ ((j : Int) < (n1 : Int)) := by omega
        have HE : Hid (l1 = l2) := hid (by
          have := HB.out.2
          rw [List.take_of_length_le (by have := HZ.out.2.2.1; omega), List.take_of_length_le (by have := HZ.out.2.2.2; omega)] at this
          exact this)
        clear hj hjn
        go_wp2
        go_ret
        exact ⟨(congrArg (fun b => Ending.returned (.bool b)) (decide_eq_true HE.out)).symm, HB.out.1⟩
      · have hj1 : (j : Int) < (n1 : Int) := by omega
        have hj0 : (0 : Int) ≤ (j : Int) := Int.natCast_nonneg _
        obtain ⟨s, es⟩ : ∃ s, l1[j]? = some s := ⟨_, List.getElem?_eq_getElem (by rw [HZ.out.2.2.1]; omega)⟩
        obtain ⟨t, et⟩ : ∃ t, l2[j]? = some t := ⟨_, List.getElem?_eq_getElem (by rw [HZ.out.2.2.2]; omega)⟩
        obtain ⟨g1, off1, rfl, hg1, hcell1⟩ := HZ.out.1.at j s es
        obtain ⟨g2, off2, rfl, hg2, hcell2⟩ := HZ.out.2.1.at j t et
        have cz1 : wr.cell? ⟨g1, off1 + j, none⟩ = some (.int .i64 s) := (HB.out.1.cell (p := ⟨g1, off1 + j, none⟩) hg1).trans hcell1
        have cz2 : wr.cell? ⟨g2, off2 + j, none⟩ = some (.int .i64 t) := (HB.out.1.cell (p := ⟨g2, off2 + j, none⟩) hg2).trans hcell2
        have HS := hid (And.intro es et)
        clear es et hg1 hg2 hcell1 hcell2
        by_cases hst : s = t
        · subst hst
          go_wp2
          go_quiet (fail)
          go_wp2
          go_roundw
          case rel => exact ⟨j + 1, by omega, rfl, ⟨HB.out.1.os, HB.out.1.tape, HB.out.1.output, HB.out.1.size, HB.out.1.block⟩, take_grow HB.out.2 HS.out.1 HS.out.2⟩
          case measure => simp [intOf]; omega
        · have hstb : (s != t) = true := by simpa using hst
          have HN : Hid (l1 ≠ l2) := hid (ne_of_at HS.out.1 HS.out.2 hst)
          go_wp2
          go_quiet (fail)
          go_wp2
          go_ret
          exact ⟨(congrArg (fun b => Ending.returned (.bool b)) (decide_eq_false HN.out)).symm, ⟨HB.out.1.os, HB.out.1.tape, HB.out.1.output, HB.out.1.size, HB.out.1.block⟩⟩
  · have hz : ¬ ((n1 : Int) = (n2 : Int)) := by omega
    have HN : Hid (l1 ≠ l2) := hid (fun e => hne (by rw [← hn1, ← hn2, e]))
    clear hne hn1 hn2 h1 h2 hm1 hm2
    go_enter Try.func24, Try.ntmps24
    go_wp2
    go_ret
    exact ⟨(congrArg (fun b => Ending.returned (.bool b)) (decide_eq_false HN.out)).symm, Below.refl _ _⟩
end Go.Proofs.Ytfjcpghepkmbfaa

/- The document's test of two lists of signatures, whatever they are. -/
namespace Go.Proofs.Ytfjcpghepkmbfaa
open Go.RowKit

theorem text_neS {x y : ByteArray} (h : ¬ x = y) : (x.toList == y.toList) = false := by
  rw [beq_eq_false_iff_ne, ByteArray.toList_eq, ByteArray.toList_eq]
  intro he
  exact h (ByteArray.ext (Array.toList_inj.1 he))
theorem pairs_at {w : World} {a : Option Addr} {ps : List (Int × ByteArray)} (h : PairsIn w a ps) (j : Nat) (p : Int × ByteArray) (hp : ps[j]? = some p) : ∃ g off, a = some ⟨g, off, none⟩ ∧ g < w.heap.size ∧ w.cell? ⟨g, off + j * 2, none⟩ = some (.int .i64 p.1) ∧ w.cell? ⟨g, off + j * 2 + 1, none⟩ = some (.string p.2) := by
  rcases h with e | ⟨g, off, ha, hg, hc⟩
  · rw [e] at hp; cases hp
  · obtain ⟨k1, k2⟩ := hc j p hp
    exact ⟨g, off, ha, hg, k1, k2⟩
set_option maxRecDepth 100000 in
set_option maxHeartbeats 3200000 in
theorem wsame_dec (a1 a2 : Option Addr) (n1 n2 c1 c2 : Nat) (l1 l2 : List (Int × ByteArray)) (hn1 : l1.length = n1) (hn2 : l2.length = n2) (hm1 : n1 ≤ maxLen) (hm2 : n2 ≤ maxLen) (w : World) (h1 : PairsIn w a1 l1) (h2 : PairsIn w a2 l2) :
    Calls Try.prog 13 #[.slice a1 n1 c1, .slice a2 n2 c2] w fun e w' => e = .returned (.bool (decide (l1 = l2))) ∧ Below w.heap.size w w' := by
  by_cases hne : n1 = n2
  · subst hne
    have hm3 : (n1 : Int) ≤ 9223372036854775807 := by unfold maxLen at hm1; omega
    have HZ := hid (And.intro h1 (And.intro h2 (And.intro hn1 hn2)))
    clear h1 h2 hn1 hn2 hm1 hm2
    go_enter Try.func13, Try.ntmps13
    go_wp2
    go_loopw [5] (fun i wr => ∃ j : Nat, j ≤ n1 ∧ i = .int .i64 (j : Int) ∧ Below w.heap.size w wr ∧ l1.take j = l2.take j)
      (fun i _ => ((n1 : Int) - intOf i).toNat)
    case atStart => exact ⟨0, by omega, rfl, Below.refl _ _, rfl⟩
    case round =>
      obtain ⟨j, hj, rfl, hbel, htk⟩ := hrel
      have HB := hid (And.intro hbel htk)
      clear hbel htk
      by_cases hjn : j = n1
      · have hj1 : ¬ ((j : Int) < (n1 : Int)) := by omega
        have HE : Hid (l1 = l2) := hid (by
          have := HB.out.2
          rw [List.take_of_length_le (by have := HZ.out.2.2.1; omega), List.take_of_length_le (by have := HZ.out.2.2.2; omega)] at this
          exact this)
        clear hj hjn
        go_wp2
        go_ret
        exact ⟨(congrArg (fun b => Ending.returned (.bool b)) (decide_eq_true HE.out)).symm, HB.out.1⟩
      · have hj1 : (j : Int) < (n1 : Int) := by omega
        have hj0 : (0 : Int) ≤ (j : Int) := Int.natCast_nonneg _
        obtain ⟨s, es⟩ : ∃ s, l1[j]? = some s := ⟨_, List.getElem?_eq_getElem (by rw [HZ.out.2.2.1]; omega)⟩
        obtain ⟨t, et⟩ : ∃ t, l2[j]? = some t := ⟨_, List.getElem?_eq_getElem (by rw [HZ.out.2.2.2]; omega)⟩
        obtain ⟨g1, off1, rfl, hg1, hx1, hy1⟩ := pairs_at HZ.out.1 j s es
        obtain ⟨g2, off2, rfl, hg2, hx2, hy2⟩ := pairs_at HZ.out.2.1 j t et
        have cx1 : wr.cell? ⟨g1, off1 + j * 2, none⟩ = some (.int .i64 s.1) := (HB.out.1.cell (p := ⟨g1, off1 + j * 2, none⟩) hg1).trans hx1
        have cy1 : wr.cell? ⟨g1, off1 + j * 2 + 1, none⟩ = some (.string s.2) := (HB.out.1.cell (p := ⟨g1, off1 + j * 2 + 1, none⟩) hg1).trans hy1
        have cx2 : wr.cell? ⟨g2, off2 + j * 2, none⟩ = some (.int .i64 t.1) := (HB.out.1.cell (p := ⟨g2, off2 + j * 2, none⟩) hg2).trans hx2
        have cy2 : wr.cell? ⟨g2, off2 + j * 2 + 1, none⟩ = some (.string t.2) := (HB.out.1.cell (p := ⟨g2, off2 + j * 2 + 1, none⟩) hg2).trans hy2
        have HS := hid (And.intro es et)
        clear es et hg1 hg2 hx1 hy1 hx2 hy2
        by_cases hst : s = t
        · subst hst
          go_wp2
          go_quiet (fail)
          go_wp2
          go_roundw
          case rel => exact ⟨j + 1, by omega, rfl, ⟨HB.out.1.os, HB.out.1.tape, HB.out.1.output, HB.out.1.size, HB.out.1.block⟩, take_grow HB.out.2 HS.out.1 HS.out.2⟩
          case measure => simp [intOf]; omega
        · have HN : Hid (l1 ≠ l2) := hid (ne_of_at HS.out.1 HS.out.2 hst)
          by_cases hs1 : s.1 = t.1
          · have hs2 : ¬ s.2 = t.2 := fun e => hst (Prod.ext hs1 e)
            have hb1 : (s.1 == t.1) = true := by simpa using hs1
            have hb2 : (s.2.toList == t.2.toList) = false := text_neS hs2
            clear hs1 hst
            go_wp2
            go_quiet (fail)
            go_wp2
            go_ret
            exact ⟨(congrArg (fun b => Ending.returned (.bool b)) (decide_eq_false HN.out)).symm, ⟨HB.out.1.os, HB.out.1.tape, HB.out.1.output, HB.out.1.size, HB.out.1.block⟩⟩
          · have hb1 : (s.1 == t.1) = false := by simpa using hs1
            have hb3 : (s.1 != t.1) = true := by simpa using hs1
            clear hst
            go_wp2
            go_quiet (fail)
            go_wp2
            go_ret
            exact ⟨(congrArg (fun b => Ending.returned (.bool b)) (decide_eq_false HN.out)).symm, ⟨HB.out.1.os, HB.out.1.tape, HB.out.1.output, HB.out.1.size, HB.out.1.block⟩⟩
  · have hz : ¬ ((n1 : Int) = (n2 : Int)) := by omega
    have HN : Hid (l1 ≠ l2) := hid (fun e => hne (by rw [← hn1, ← hn2, e]))
    clear hne hn1 hn2 h1 h2 hm1 hm2
    go_enter Try.func13, Try.ntmps13
    go_wp2
    go_ret
    exact ⟨(congrArg (fun b => Ending.returned (.bool b)) (decide_eq_false HN.out)).symm, Below.refl _ _⟩
end Go.Proofs.Ytfjcpghepkmbfaa

/- The document's test of two lists of certificates. -/
namespace Go.Proofs.Ytfjcpghepkmbfaa
open Go.RowKit

def ctSame (a b : Ct) : Bool := decide (a.1 = b.1) && (decide (a.2.1 = b.2.1) && (wholeB a.2.2.1 b.2.2.1 && decide (a.2.2.2 = b.2.2.2)))
def ctsSame (l1 l2 : List Ct) : Bool := decide (l1.length = l2.length) && allTo (fun i => ctSame (l1.getD i ct0) (l2.getD i ct0)) l1.length
set_option maxRecDepth 100000 in
set_option maxHeartbeats 6400000 in
theorem wsameCerts_any {F1 F2 : Nat → Prop} (a1 a2 : Option Addr) (n1 n2 c1 c2 : Nat) (l1 l2 : List Ct) (hn1 : l1.length = n1) (hn2 : l2.length = n2) (hm1 : n1 ≤ maxLen) (hb1 : ∀ x, x ∈ l1 → x.2.2.2.length ≤ maxLen) (hb2 : ∀ x, x ∈ l2 → x.2.2.2.length ≤ maxLen) (w : World) (h1 : Reads F1 w (.slice a1 n1 c1) (dCts l1)) (h2 : Reads F2 w (.slice a2 n2 c2) (dCts l2)) :
    Calls Try.prog 52 #[.slice a1 n1 c1, .slice a2 n2 c2] w fun e w' => e = .returned (.bool (ctsSame l1 l2)) ∧ Below w.heap.size w w' := by
  obtain ⟨V, eV⟩ : ∃ V, V = ctsSame l1 l2 := ⟨_, rfl⟩
  rw [← eV]
  by_cases hne : n1 = n2
  · subst hne
    have hm3 : (n1 : Int) ≤ 9223372036854775807 := by unfold maxLen at hm1; omega
    have HV : Hid (V = allTo (fun i => ctSame (l1.getD i ct0) (l2.getD i ct0)) n1) := hid (by rw [eV, ctsSame, hn1, hn2, decide_eq_true rfl]; rfl)
    have HZ := hid (And.intro h1 (And.intro h2 (And.intro hn1 hn2)))
    have HBd := hid (And.intro hb1 hb2)
    clear h1 h2 hn1 hn2 hm1 eV hb1 hb2
    go_enter Try.func52, Try.ntmps52
    go_wp2
    go_loopw [5] (fun i wr => ∃ j : Nat, j ≤ n1 ∧ i = .int .i64 (j : Int) ∧ Below w.heap.size w wr ∧ allTo (fun i => ctSame (l1.getD i ct0) (l2.getD i ct0)) j = true)
      (fun i _ => ((n1 : Int) - intOf i).toNat)
    case atStart => exact ⟨0, by omega, rfl, Below.refl _ _, rfl⟩
    case round =>
      obtain ⟨j, hj, rfl, hbel, hok⟩ := hrel
      have HB := hid hbel
      have HOk := hid hok
      clear hbel hok
      have hj0 : (0 : Int) ≤ (j : Int) := Int.natCast_nonneg _
      by_cases hjn : j = n1
      · have hj1 : ¬ ((j : Int) < (n1 : Int)) := by omega
        have hv : Hid (V = true) := hid (by rw [HV.out, ← hjn]; exact HOk.out)
        clear hj hjn
        go_wp2
        go_ret
        exact ⟨by rw [hv.out]; rfl, HB.out⟩
      · have hj1 : (j : Int) < (n1 : Int) := by omega
        have hjl1 : j < l1.length := by have := HZ.out.2.2.1; omega
        have hjl2 : j < l2.length := by have := HZ.out.2.2.2; omega
        obtain ⟨g1, off1, cp1, ax, kx, hv1, hP1, hg1, hc1⟩ := ct_at (HZ.out.1.under HB.out (Nat.le_refl _)) j hjl1
        obtain ⟨g2, off2, cp2, ay, ky, hv2, hP2, hg2, hc2⟩ := ct_at (HZ.out.2.1.under HB.out (Nat.le_refl _)) j hjl2
        simp only [Value.slice.injEq] at hv1 hv2
        obtain ⟨rfl, -, rfl⟩ := hv1
        obtain ⟨rfl, -, rfl⟩ := hv2
        have HP := hid (And.intro hP1 hP2)
        have HFa : Hid (ctSame (l1.getD j ct0) (l2.getD j ct0) = false → V = false) := hid (fun e => by rw [HV.out]; exact allTo_no j (by omega) e)
        have HTr : Hid (ctSame (l1.getD j ct0) (l2.getD j ct0) = true → allTo (fun i => ctSame (l1.getD i ct0) (l2.getD i ct0)) (j + 1) = true) := hid (fun e => by rw [allTo, HOk.out, e]; rfl)
        have HBx := hid (And.intro (HBd.out.1 (l1.getD j ct0) (by rw [List.getD_eq_getElem?_getD, List.getElem?_eq_getElem hjl1]; exact List.getElem_mem hjl1)) (HBd.out.2 (l2.getD j ct0) (by rw [List.getD_eq_getElem?_getD, List.getElem?_eq_getElem hjl2]; exact List.getElem_mem hjl2)))
        have HJ := hid (And.intro hj hjn)
        have HG := hid (And.intro (And.intro hg1 hc1) (And.intro hg2 hc2))
        generalize l1.getD j ct0 = x at HP HFa HTr HBx HG
        generalize l2.getD j ct0 = y at HP HFa HTr HBx HG
        clear hj hjn hjl1 hjl2 hP1 hP2 hg1 hc1 hg2 hc2
        have p0 : ∀ cx : Cls wr, cx.1.cell? ⟨g1, off1 + j * 9, none⟩ = some (.int .i64 x.1) := fun cx => (cx.2.cell (p := ⟨g1, off1 + j * 9 + 0, none⟩) HG.out.1.1).trans (HG.out.1.2 0 _ rfl)
        have p1 : ∀ cx : Cls wr, cx.1.cell? ⟨g1, off1 + j * 9 + 1, none⟩ = some (.int .i64 x.2.1) := fun cx => (cx.2.cell (p := ⟨g1, off1 + j * 9 + 1, none⟩) HG.out.1.1).trans (HG.out.1.2 1 _ rfl)
        have p2 : ∀ cx : Cls wr, cx.1.cell? ⟨g1, off1 + j * 9 + 2, none⟩ = some (.int .i64 x.2.2.1.c) := fun cx => (cx.2.cell (p := ⟨g1, off1 + j * 9 + 2, none⟩) HG.out.1.1).trans (HG.out.1.2 2 _ rfl)
        have p3 : ∀ cx : Cls wr, cx.1.cell? ⟨g1, off1 + j * 9 + 3, none⟩ = some (.int .i64 x.2.2.1.st) := fun cx => (cx.2.cell (p := ⟨g1, off1 + j * 9 + 3, none⟩) HG.out.1.1).trans (HG.out.1.2 3 _ rfl)
        have p4 : ∀ cx : Cls wr, cx.1.cell? ⟨g1, off1 + j * 9 + 4, none⟩ = some (.int .i64 x.2.2.1.k) := fun cx => (cx.2.cell (p := ⟨g1, off1 + j * 9 + 4, none⟩) HG.out.1.1).trans (HG.out.1.2 4 _ rfl)
        have p5 : ∀ cx : Cls wr, cx.1.cell? ⟨g1, off1 + j * 9 + 5, none⟩ = some (.string x.2.2.1.key) := fun cx => (cx.2.cell (p := ⟨g1, off1 + j * 9 + 5, none⟩) HG.out.1.1).trans (HG.out.1.2 5 _ rfl)
        have p6 : ∀ cx : Cls wr, cx.1.cell? ⟨g1, off1 + j * 9 + 6, none⟩ = some (.float .f64 x.2.2.1.b) := fun cx => (cx.2.cell (p := ⟨g1, off1 + j * 9 + 6, none⟩) HG.out.1.1).trans (HG.out.1.2 6 _ rfl)
        have p7 : ∀ cx : Cls wr, cx.1.cell? ⟨g1, off1 + j * 9 + 7, none⟩ = some (.int .i64 x.2.2.1.id) := fun cx => (cx.2.cell (p := ⟨g1, off1 + j * 9 + 7, none⟩) HG.out.1.1).trans (HG.out.1.2 7 _ rfl)
        have p8 : ∀ cx : Cls wr, cx.1.cell? ⟨g1, off1 + j * 9 + 8, none⟩ = some (.slice ax x.2.2.2.length kx) := fun cx => (cx.2.cell (p := ⟨g1, off1 + j * 9 + 8, none⟩) HG.out.1.1).trans (HG.out.1.2 8 _ rfl)
        have q0 : ∀ cx : Cls wr, cx.1.cell? ⟨g2, off2 + j * 9, none⟩ = some (.int .i64 y.1) := fun cx => (cx.2.cell (p := ⟨g2, off2 + j * 9 + 0, none⟩) HG.out.2.1).trans (HG.out.2.2 0 _ rfl)
        have q1 : ∀ cx : Cls wr, cx.1.cell? ⟨g2, off2 + j * 9 + 1, none⟩ = some (.int .i64 y.2.1) := fun cx => (cx.2.cell (p := ⟨g2, off2 + j * 9 + 1, none⟩) HG.out.2.1).trans (HG.out.2.2 1 _ rfl)
        have q2 : ∀ cx : Cls wr, cx.1.cell? ⟨g2, off2 + j * 9 + 2, none⟩ = some (.int .i64 y.2.2.1.c) := fun cx => (cx.2.cell (p := ⟨g2, off2 + j * 9 + 2, none⟩) HG.out.2.1).trans (HG.out.2.2 2 _ rfl)
        have q3 : ∀ cx : Cls wr, cx.1.cell? ⟨g2, off2 + j * 9 + 3, none⟩ = some (.int .i64 y.2.2.1.st) := fun cx => (cx.2.cell (p := ⟨g2, off2 + j * 9 + 3, none⟩) HG.out.2.1).trans (HG.out.2.2 3 _ rfl)
        have q4 : ∀ cx : Cls wr, cx.1.cell? ⟨g2, off2 + j * 9 + 4, none⟩ = some (.int .i64 y.2.2.1.k) := fun cx => (cx.2.cell (p := ⟨g2, off2 + j * 9 + 4, none⟩) HG.out.2.1).trans (HG.out.2.2 4 _ rfl)
        have q5 : ∀ cx : Cls wr, cx.1.cell? ⟨g2, off2 + j * 9 + 5, none⟩ = some (.string y.2.2.1.key) := fun cx => (cx.2.cell (p := ⟨g2, off2 + j * 9 + 5, none⟩) HG.out.2.1).trans (HG.out.2.2 5 _ rfl)
        have q6 : ∀ cx : Cls wr, cx.1.cell? ⟨g2, off2 + j * 9 + 6, none⟩ = some (.float .f64 y.2.2.1.b) := fun cx => (cx.2.cell (p := ⟨g2, off2 + j * 9 + 6, none⟩) HG.out.2.1).trans (HG.out.2.2 6 _ rfl)
        have q7 : ∀ cx : Cls wr, cx.1.cell? ⟨g2, off2 + j * 9 + 7, none⟩ = some (.int .i64 y.2.2.1.id) := fun cx => (cx.2.cell (p := ⟨g2, off2 + j * 9 + 7, none⟩) HG.out.2.1).trans (HG.out.2.2 7 _ rfl)
        have q8 : ∀ cx : Cls wr, cx.1.cell? ⟨g2, off2 + j * 9 + 8, none⟩ = some (.slice ay y.2.2.2.length ky) := fun cx => (cx.2.cell (p := ⟨g2, off2 + j * 9 + 8, none⟩) HG.out.2.1).trans (HG.out.2.2 8 _ rfl)
        have HWh : Hid (∀ u : World, Below wr.heap.size wr u → Calls Try.prog 22 #[.agg #[.int .i64 x.2.2.1.c, .int .i64 x.2.2.1.st, .int .i64 x.2.2.1.k, .string x.2.2.1.key, .float .f64 x.2.2.1.b, .int .i64 x.2.2.1.id], .agg #[.int .i64 y.2.2.1.c, .int .i64 y.2.2.1.st, .int .i64 y.2.2.1.k, .string y.2.2.1.key, .float .f64 y.2.2.1.b, .int .i64 y.2.2.1.id]] u fun e w' => e = .returned (.bool (wholeB x.2.2.1 y.2.2.1)) ∧ Below u.heap.size u w') := hid (fun u hu => qwhole_any x.2.2.1 y.2.2.1 u)
        have HSg : Hid (∀ u : World, Below wr.heap.size wr u → Calls Try.prog 13 #[.slice ax x.2.2.2.length kx, .slice ay y.2.2.2.length ky] u fun e w' => e = .returned (.bool (decide (x.2.2.2 = y.2.2.2))) ∧ Below u.heap.size u w') := hid (fun u hu => wsame_dec ax ay _ _ kx ky x.2.2.2 y.2.2.2 rfl rfl HBx.out.1 HBx.out.2 u (HP.out.1.keep hu (Nat.le_refl _)) (HP.out.2.keep hu (Nat.le_refl _)))
        go_wp2_with fail
        by_cases hs1 : ¬ x.1 = y.1
        · have hb : (x.1 != y.1) = true := by simpa using hs1
          have HF := hid (HFa.out (by rw [ctSame, decide_eq_false hs1]; rfl))
          clear hs1
          haveI := Cls.ne wr
          refine wp_region_cls wr (by kernel_rfl) (by kernel_rfl) ?_
          repeat (go_big_quiet_step ((first
            | (go_at_call 22; exact Cls.of _ (fun u hu => HWh.out u hu))
            | (go_at_call 13; exact Cls.of _ (fun u hu => HSg.out u hu)))))
          refine wpQuiet_nil ?_
          rintro _ ⟨cx, rfl⟩
          go_wp2
          go_ret
          exact ⟨by rw [HF.out]; rfl, HB.out.trans (cx.2.mono HB.out.size)⟩
        have hs1 : x.1 = y.1 := Classical.not_not.1 hs1
        have hb1 : (x.1 != y.1) = false := by simpa using hs1
        by_cases hs2 : ¬ x.2.1 = y.2.1
        · have hb : (x.2.1 != y.2.1) = true := by simpa using hs2
          have HF := hid (HFa.out (by rw [ctSame, decide_eq_false hs2, Bool.false_and, Bool.and_false]))
          clear hs1 hs2
          haveI := Cls.ne wr
          refine wp_region_cls wr (by kernel_rfl) (by kernel_rfl) ?_
          repeat (go_big_quiet_step ((first
            | (go_at_call 22; exact Cls.of _ (fun u hu => HWh.out u hu))
            | (go_at_call 13; exact Cls.of _ (fun u hu => HSg.out u hu)))))
          refine wpQuiet_nil ?_
          rintro _ ⟨cx, rfl⟩
          go_wp2
          go_ret
          exact ⟨by rw [HF.out]; rfl, HB.out.trans (cx.2.mono HB.out.size)⟩
        have hs2 : x.2.1 = y.2.1 := Classical.not_not.1 hs2
        have hb2 : (x.2.1 != y.2.1) = false := by simpa using hs2
        have HC : Hid (ctSame x y = (wholeB x.2.2.1 y.2.2.1 && decide (x.2.2.2 = y.2.2.2))) := hid (by rw [ctSame, decide_eq_true hs1, decide_eq_true hs2]; rfl)
        clear hs1 hs2
        cases hw : wholeB x.2.2.1 y.2.2.1 with
        | false =>
          rw [hw] at HWh HC
          have HF := hid (HFa.out HC.out)
          clear hw
          haveI := Cls.ne wr
          refine wp_region_cls wr (by kernel_rfl) (by kernel_rfl) ?_
          repeat (go_big_quiet_step ((first
            | (go_at_call 22; exact Cls.of _ (fun u hu => HWh.out u hu))
            | (go_at_call 13; exact Cls.of _ (fun u hu => HSg.out u hu)))))
          refine wpQuiet_nil ?_
          rintro _ ⟨cx, rfl⟩
          go_wp2
          go_ret
          exact ⟨by rw [HF.out]; rfl, HB.out.trans (cx.2.mono HB.out.size)⟩
        | true =>
          rw [hw] at HWh HC
          clear hw
          cases hg : decide (x.2.2.2 = y.2.2.2) with
          | false =>
            rw [hg] at HSg HC
            have HF := hid (HFa.out HC.out)
            clear hg
            haveI := Cls.ne wr
            refine wp_region_cls wr (by kernel_rfl) (by kernel_rfl) ?_
            repeat (go_big_quiet_step ((first
              | (go_at_call 22; exact Cls.of _ (fun u hu => HWh.out u hu))
              | (go_at_call 13; exact Cls.of _ (fun u hu => HSg.out u hu)))))
            refine wpQuiet_nil ?_
            rintro _ ⟨cx, rfl⟩
            go_wp2
            go_ret
            exact ⟨by rw [HF.out]; rfl, HB.out.trans (cx.2.mono HB.out.size)⟩
          | true =>
            rw [hg] at HSg HC
            have HT := hid (HTr.out HC.out)
            clear hg
            haveI := Cls.ne wr
            refine wp_region_cls wr (by kernel_rfl) (by kernel_rfl) ?_
            repeat (go_big_quiet_step ((first
              | (go_at_call 22; exact Cls.of _ (fun u hu => HWh.out u hu))
              | (go_at_call 13; exact Cls.of _ (fun u hu => HSg.out u hu)))))
            refine wpQuiet_nil ?_
            rintro _ ⟨cx, rfl⟩
            go_wp2
            go_roundw
            case rel => exact ⟨j + 1, by have := HJ.out; omega, by go_num, HB.out.trans (cx.2.mono HB.out.size), HT.out⟩
            case measure => simp [intOf]; omega
  · have hz : ¬ ((n1 : Int) = (n2 : Int)) := by omega
    have HN : Hid (V = false) := hid (by rw [eV, ctsSame, decide_eq_false (by omega)]; rfl)
    clear hne hn1 hn2 h1 h2 hm1 eV hb1 hb2
    go_enter Try.func52, Try.ntmps52
    go_wp2
    go_ret
    exact ⟨by rw [HN.out]; rfl, Below.refl _ _⟩
end Go.Proofs.Ytfjcpghepkmbfaa

/- The document's test of two lists of changes. -/
namespace Go.Proofs.Ytfjcpghepkmbfaa
open Go.RowKit

def cgSame (a b : Cg) : Bool := decide (a.1 = b.1) && (decide (a.2.1 = b.2.1) && (decide (a.2.2.2 = b.2.2.2) && ctsSame a.2.2.1 b.2.2.1))
def cgsSame (l1 l2 : List Cg) : Bool := decide (l1.length = l2.length) && allTo (fun i => cgSame (l1.getD i cg0) (l2.getD i cg0)) l1.length
def cgN (x : Cg) : Prop := x.2.2.1.length ≤ maxLen ∧ ∀ c, c ∈ x.2.2.1 → c.2.2.2.length ≤ maxLen
set_option maxRecDepth 100000 in
set_option maxHeartbeats 6400000 in
theorem wsameChanges_any {F1 F2 : Nat → Prop} (a1 a2 : Option Addr) (n1 n2 c1 c2 : Nat) (l1 l2 : List Cg) (hn1 : l1.length = n1) (hn2 : l2.length = n2) (hm1 : n1 ≤ maxLen) (hb1 : ∀ x, x ∈ l1 → cgN x) (hb2 : ∀ x, x ∈ l2 → cgN x) (w : World) (h1 : Reads F1 w (.slice a1 n1 c1) (dCgs l1)) (h2 : Reads F2 w (.slice a2 n2 c2) (dCgs l2)) :
    Calls Try.prog 25 #[.slice a1 n1 c1, .slice a2 n2 c2] w fun e w' => e = .returned (.bool (cgsSame l1 l2)) ∧ Below w.heap.size w w' := by
  obtain ⟨V, eV⟩ : ∃ V, V = cgsSame l1 l2 := ⟨_, rfl⟩
  rw [← eV]
  by_cases hne : n1 = n2
  · subst hne
    have hm3 : (n1 : Int) ≤ 9223372036854775807 := by unfold maxLen at hm1; omega
    have HV : Hid (V = allTo (fun i => cgSame (l1.getD i cg0) (l2.getD i cg0)) n1) := hid (by rw [eV, cgsSame, hn1, hn2, decide_eq_true rfl]; rfl)
    have HZ := hid (And.intro h1 (And.intro h2 (And.intro hn1 hn2)))
    have HBd := hid (And.intro hb1 hb2)
    clear h1 h2 hn1 hn2 hm1 eV hb1 hb2
    go_enter Try.func25, Try.ntmps25
    go_wp2
    go_loopw [5] (fun i wr => ∃ j : Nat, j ≤ n1 ∧ i = .int .i64 (j : Int) ∧ Below w.heap.size w wr ∧ allTo (fun i => cgSame (l1.getD i cg0) (l2.getD i cg0)) j = true)
      (fun i _ => ((n1 : Int) - intOf i).toNat)
    case atStart => exact ⟨0, by omega, rfl, Below.refl _ _, rfl⟩
    case round =>
      obtain ⟨j, hj, rfl, hbel, hok⟩ := hrel
      have HB := hid hbel
      have HOk := hid hok
      clear hbel hok
      have hj0 : (0 : Int) ≤ (j : Int) := Int.natCast_nonneg _
      by_cases hjn : j = n1
      · have hj1 : ¬ ((j : Int) < (n1 : Int)) := by omega
        have hv : Hid (V = true) := hid (by rw [HV.out, ← hjn]; exact HOk.out)
        clear hj hjn
        go_wp2
        go_ret
        exact ⟨by rw [hv.out]; rfl, HB.out⟩
      · have hj1 : (j : Int) < (n1 : Int) := by omega
        have hjl1 : j < l1.length := by have := HZ.out.2.2.1; omega
        have hjl2 : j < l2.length := by have := HZ.out.2.2.2; omega
        obtain ⟨g1, off1, cp1, ax, nx, kx, hv1, hP1, hg1, hc1⟩ := cg_at (HZ.out.1.under HB.out (Nat.le_refl _)) j hjl1
        obtain ⟨g2, off2, cp2, ay, ny, ky, hv2, hP2, hg2, hc2⟩ := cg_at (HZ.out.2.1.under HB.out (Nat.le_refl _)) j hjl2
        simp only [Value.slice.injEq] at hv1 hv2
        obtain ⟨rfl, -, rfl⟩ := hv1
        obtain ⟨rfl, -, rfl⟩ := hv2
        have HP := hid (And.intro hP1 hP2)
        have HFa : Hid (cgSame (l1.getD j cg0) (l2.getD j cg0) = false → V = false) := hid (fun e => by rw [HV.out]; exact allTo_no j (by omega) e)
        have HTr : Hid (cgSame (l1.getD j cg0) (l2.getD j cg0) = true → allTo (fun i => cgSame (l1.getD i cg0) (l2.getD i cg0)) (j + 1) = true) := hid (fun e => by rw [allTo, HOk.out, e]; rfl)
        have HBx := hid (And.intro (HBd.out.1 (l1.getD j cg0) (by rw [List.getD_eq_getElem?_getD, List.getElem?_eq_getElem hjl1]; exact List.getElem_mem hjl1)) (HBd.out.2 (l2.getD j cg0) (by rw [List.getD_eq_getElem?_getD, List.getElem?_eq_getElem hjl2]; exact List.getElem_mem hjl2)))
        have HJ := hid (And.intro hj hjn)
        have HG := hid (And.intro (And.intro hg1 hc1) (And.intro hg2 hc2))
        generalize l1.getD j cg0 = x at HP HFa HTr HBx HG
        generalize l2.getD j cg0 = y at HP HFa HTr HBx HG
        clear hj hjn hjl1 hjl2 hP1 hP2 hg1 hc1 hg2 hc2
        have p0 : ∀ cx : Cls wr, cx.1.cell? ⟨g1, off1 + j * 5, none⟩ = some (.int .i64 x.1) := fun cx => (cx.2.cell (p := ⟨g1, off1 + j * 5 + 0, none⟩) HG.out.1.1).trans (HG.out.1.2 0 _ rfl)
        have p1 : ∀ cx : Cls wr, cx.1.cell? ⟨g1, off1 + j * 5 + 1, none⟩ = some (.int .i64 x.2.1) := fun cx => (cx.2.cell (p := ⟨g1, off1 + j * 5 + 1, none⟩) HG.out.1.1).trans (HG.out.1.2 1 _ rfl)
        have p2 : ∀ cx : Cls wr, cx.1.cell? ⟨g1, off1 + j * 5 + 2, none⟩ = some (.slice ax nx kx) := fun cx => (cx.2.cell (p := ⟨g1, off1 + j * 5 + 2, none⟩) HG.out.1.1).trans (HG.out.1.2 2 _ rfl)
        have p3 : ∀ cx : Cls wr, cx.1.cell? ⟨g1, off1 + j * 5 + 3, none⟩ = some (.int .i64 x.2.2.2.1) := fun cx => (cx.2.cell (p := ⟨g1, off1 + j * 5 + 3, none⟩) HG.out.1.1).trans (HG.out.1.2 3 _ rfl)
        have p4 : ∀ cx : Cls wr, cx.1.cell? ⟨g1, off1 + j * 5 + 4, none⟩ = some (.string x.2.2.2.2) := fun cx => (cx.2.cell (p := ⟨g1, off1 + j * 5 + 4, none⟩) HG.out.1.1).trans (HG.out.1.2 4 _ rfl)
        have q0 : ∀ cx : Cls wr, cx.1.cell? ⟨g2, off2 + j * 5, none⟩ = some (.int .i64 y.1) := fun cx => (cx.2.cell (p := ⟨g2, off2 + j * 5 + 0, none⟩) HG.out.2.1).trans (HG.out.2.2 0 _ rfl)
        have q1 : ∀ cx : Cls wr, cx.1.cell? ⟨g2, off2 + j * 5 + 1, none⟩ = some (.int .i64 y.2.1) := fun cx => (cx.2.cell (p := ⟨g2, off2 + j * 5 + 1, none⟩) HG.out.2.1).trans (HG.out.2.2 1 _ rfl)
        have q2 : ∀ cx : Cls wr, cx.1.cell? ⟨g2, off2 + j * 5 + 2, none⟩ = some (.slice ay ny ky) := fun cx => (cx.2.cell (p := ⟨g2, off2 + j * 5 + 2, none⟩) HG.out.2.1).trans (HG.out.2.2 2 _ rfl)
        have q3 : ∀ cx : Cls wr, cx.1.cell? ⟨g2, off2 + j * 5 + 3, none⟩ = some (.int .i64 y.2.2.2.1) := fun cx => (cx.2.cell (p := ⟨g2, off2 + j * 5 + 3, none⟩) HG.out.2.1).trans (HG.out.2.2 3 _ rfl)
        have q4 : ∀ cx : Cls wr, cx.1.cell? ⟨g2, off2 + j * 5 + 4, none⟩ = some (.string y.2.2.2.2) := fun cx => (cx.2.cell (p := ⟨g2, off2 + j * 5 + 4, none⟩) HG.out.2.1).trans (HG.out.2.2 4 _ rfl)
        have hnx : x.2.2.1.length = nx := by obtain ⟨_, _, hf⟩ := Reads.form HP.out.1; injection hf with _ h2 _; rw [h2, List.length_map]
        have hny : y.2.2.1.length = ny := by obtain ⟨_, _, hf⟩ := Reads.form HP.out.2; injection hf with _ h2 _; rw [h2, List.length_map]
        have HSg : Hid (∀ u : World, Below wr.heap.size wr u → Calls Try.prog 52 #[.slice ax nx kx, .slice ay ny ky] u fun e w' => e = .returned (.bool (ctsSame x.2.2.1 y.2.2.1)) ∧ Below u.heap.size u w') := hid (fun u hu => wsameCerts_any ax ay nx ny kx ky x.2.2.1 y.2.2.1 hnx hny (by rw [← hnx]; exact HBx.out.1.1) HBx.out.1.2 HBx.out.2.2 u (HP.out.1.under hu (Nat.le_refl _)) (HP.out.2.under hu (Nat.le_refl _)))
        clear hnx hny
        go_wp2_with fail
        by_cases hs1 : ¬ x.1 = y.1
        · have hb : (x.1 != y.1) = true := by simpa using hs1
          have HF := hid (HFa.out (by rw [cgSame, decide_eq_false hs1]; rfl))
          clear hs1
          haveI := Cls.ne wr
          refine wp_region_cls wr (by kernel_rfl) (by kernel_rfl) ?_
          repeat (go_big_quiet_step ((first
            | (go_at_call 52; exact Cls.of _ (fun u hu => HSg.out u hu)))))
          refine wpQuiet_nil ?_
          rintro _ ⟨cx, rfl⟩
          go_wp2
          go_ret
          exact ⟨by rw [HF.out]; rfl, HB.out.trans (cx.2.mono HB.out.size)⟩
        have hs1 : x.1 = y.1 := Classical.not_not.1 hs1
        have hb1 : (x.1 != y.1) = false := by simpa using hs1
        by_cases hs2 : ¬ x.2.1 = y.2.1
        · have hb : (x.2.1 != y.2.1) = true := by simpa using hs2
          have HF := hid (HFa.out (by rw [cgSame, decide_eq_false hs2, Bool.false_and, Bool.and_false]))
          clear hs1 hs2
          haveI := Cls.ne wr
          refine wp_region_cls wr (by kernel_rfl) (by kernel_rfl) ?_
          repeat (go_big_quiet_step ((first
            | (go_at_call 52; exact Cls.of _ (fun u hu => HSg.out u hu)))))
          refine wpQuiet_nil ?_
          rintro _ ⟨cx, rfl⟩
          go_wp2
          go_ret
          exact ⟨by rw [HF.out]; rfl, HB.out.trans (cx.2.mono HB.out.size)⟩
        have hs2 : x.2.1 = y.2.1 := Classical.not_not.1 hs2
        have hb2 : (x.2.1 != y.2.1) = false := by simpa using hs2
        have HC : Hid (cgSame x y = (decide (x.2.2.2 = y.2.2.2) && ctsSame x.2.2.1 y.2.2.1)) := hid (by rw [cgSame, decide_eq_true hs1, decide_eq_true hs2]; rfl)
        clear hs1 hs2
        by_cases hg : ¬ x.2.2.2 = y.2.2.2
        · have HF := hid (HFa.out (by rw [HC.out, decide_eq_false hg]; rfl))
          by_cases hg1 : x.2.2.2.1 = y.2.2.2.1
          · have hg2 : ¬ x.2.2.2.2 = y.2.2.2.2 := fun e => hg (Prod.ext hg1 e)
            have hb3 : (x.2.2.2.1 == y.2.2.2.1) = true := by simpa using hg1
            have hb4 : (x.2.2.2.2.toList == y.2.2.2.2.toList) = false := text_neS hg2
            clear hg1 hg2 hg
            haveI := Cls.ne wr
            refine wp_region_cls wr (by kernel_rfl) (by kernel_rfl) ?_
            repeat (go_big_quiet_step ((first
              | (go_at_call 52; exact Cls.of _ (fun u hu => HSg.out u hu)))))
            refine wpQuiet_nil ?_
            rintro _ ⟨cx, rfl⟩
            go_wp2
            go_ret
            exact ⟨by rw [HF.out]; rfl, HB.out.trans (cx.2.mono HB.out.size)⟩
          · have hb3 : (x.2.2.2.1 == y.2.2.2.1) = false := by simpa using hg1
            clear hg
            haveI := Cls.ne wr
            refine wp_region_cls wr (by kernel_rfl) (by kernel_rfl) ?_
            repeat (go_big_quiet_step ((first
              | (go_at_call 52; exact Cls.of _ (fun u hu => HSg.out u hu)))))
            refine wpQuiet_nil ?_
            rintro _ ⟨cx, rfl⟩
            go_wp2
            go_ret
            exact ⟨by rw [HF.out]; rfl, HB.out.trans (cx.2.mono HB.out.size)⟩
        have hg : x.2.2.2 = y.2.2.2 := Classical.not_not.1 hg
        have hb3 : (x.2.2.2.1 == y.2.2.2.1) = true := by rw [hg]; simp
        have hb4 : (x.2.2.2.2.toList == y.2.2.2.2.toList) = true := by rw [hg]; simp
        have HC2 : Hid (cgSame x y = ctsSame x.2.2.1 y.2.2.1) := hid (by rw [HC.out, decide_eq_true hg]; rfl)
        clear hg HC
        cases hw : ctsSame x.2.2.1 y.2.2.1 with
        | false =>
          rw [hw] at HSg HC2
          have HF := hid (HFa.out HC2.out)
          clear hw
          haveI := Cls.ne wr
          refine wp_region_cls wr (by kernel_rfl) (by kernel_rfl) ?_
          repeat (go_big_quiet_step ((first
            | (go_at_call 52; exact Cls.of _ (fun u hu => HSg.out u hu)))))
          refine wpQuiet_nil ?_
          rintro _ ⟨cx, rfl⟩
          go_wp2
          go_ret
          exact ⟨by rw [HF.out]; rfl, HB.out.trans (cx.2.mono HB.out.size)⟩
        | true =>
          rw [hw] at HSg HC2
          have HT := hid (HTr.out HC2.out)
          clear hw
          haveI := Cls.ne wr
          refine wp_region_cls wr (by kernel_rfl) (by kernel_rfl) ?_
          repeat (go_big_quiet_step ((first
            | (go_at_call 52; exact Cls.of _ (fun u hu => HSg.out u hu)))))
          refine wpQuiet_nil ?_
          rintro _ ⟨cx, rfl⟩
          go_wp2
          go_roundw
          case rel => exact ⟨j + 1, by have := HJ.out; omega, by go_num, HB.out.trans (cx.2.mono HB.out.size), HT.out⟩
          case measure => simp [intOf]; omega
  · have hz : ¬ ((n1 : Int) = (n2 : Int)) := by omega
    have HN : Hid (V = false) := hid (by rw [eV, cgsSame, decide_eq_false (by omega)]; rfl)
    clear hne hn1 hn2 h1 h2 hm1 eV hb1 hb2
    go_enter Try.func25, Try.ntmps25
    go_wp2
    go_ret
    exact ⟨by rw [HN.out]; rfl, Below.refl _ _⟩
end Go.Proofs.Ytfjcpghepkmbfaa

/- Two messages as the document compares them: the same, field by field. No walk here. -/
namespace Go.Proofs.Ytfjcpghepkmbfaa
open Go.RowKit

def lnSame (a b : Ln) : Bool := (decide (a.1.1 = b.1.1) && decide (a.1.2 = b.1.2)) && decide (a.2 = b.2)
def lnsP (l1 l2 : List Ln) (i : Nat) : Bool := lnSame (l1.getD i ln0) (l2.getD i ln0)
/-- The last row. -/
def endSame (a b : Ms) : Bool := wholeB a.rq b.rq && (sameS a.rs.1 a.rs.2 b.rs.1 b.rs.2 && (decide (a.nx = b.nx) && (decide (a.sg = b.sg) && cgsSame a.cg b.cg)))
def sameMs (a b : Ms) : Bool := decide (a.k = b.k) && (decide (a.ep = b.ep) && (decide (a.v = b.v) && (decide (a.sl = b.sl) && (decide (a.tx = b.tx) && (decide (a.ln.length = b.ln.length) && (allTo (lnsP a.ln b.ln) a.ln.length && endSame a b))))))
theorem list_alike {α : Type} {d : α} {f : α → α → Bool} {g : α → α} (hf : ∀ a b, f a b = true ↔ g a = g b) (l1 l2 : List α) (hl : l1.length = l2.length) : allTo (fun i => f (l1.getD i d) (l2.getD i d)) l1.length = true ↔ l1.map g = l2.map g := by
  constructor
  · intro h
    apply List.ext_getElem (by rw [List.length_map, List.length_map, hl])
    intro i h1 h2
    rw [List.length_map] at h1 h2
    have := (hf _ _).1 (allTo_at h i h1)
    simpa [h1, h2] using this
  · intro h
    refine allTo_of fun i hi => (hf _ _).2 ?_
    have h2 : i < l2.length := by omega
    have := congrArg (fun l => l[i]?) h
    simpa [hi, h2] using this
theorem whole_norm (x y : Rq) : wholeB x y = true ↔ normR x = normR y := by
  cases x; cases y
  simp only [wholeB_iff, normR, Rq.mk.injEq]
  constructor
  · rintro ⟨q1, q2, q3, q4, q5, q6⟩; simp_all
  · intro h; simp_all
theorem ctSame_iff (a b : Ct) : ctSame a b = true ↔ nCt a = nCt b := by
  obtain ⟨a1, a2, a3, a4⟩ := a
  obtain ⟨b1, b2, b3, b4⟩ := b
  simp only [ctSame, Bool.and_eq_true, decide_eq_true_eq, whole_norm, nCt, Prod.mk.injEq]
theorem ctsSame_iff (a b : List Ct) : ctsSame a b = true ↔ a.map nCt = b.map nCt := by
  rw [ctsSame, Bool.and_eq_true, decide_eq_true_eq]
  constructor
  · rintro ⟨h1, h2⟩; exact (list_alike ctSame_iff a b h1).1 h2
  · intro h
    have hl : a.length = b.length := by simpa using congrArg List.length h
    exact ⟨hl, (list_alike ctSame_iff a b hl).2 h⟩
theorem cgSame_iff (a b : Cg) : cgSame a b = true ↔ nCg a = nCg b := by
  obtain ⟨a1, a2, a3, a4⟩ := a
  obtain ⟨b1, b2, b3, b4⟩ := b
  simp only [cgSame, Bool.and_eq_true, decide_eq_true_eq, ctsSame_iff, nCg, Prod.mk.injEq]
  constructor
  · rintro ⟨h1, h2, h3, h4⟩; exact ⟨h1, h2, h4, h3⟩
  · rintro ⟨h1, h2, h3, h4⟩; exact ⟨h1, h2, h4, h3⟩
theorem cgsSame_iff (a b : List Cg) : cgsSame a b = true ↔ a.map nCg = b.map nCg := by
  rw [cgsSame, Bool.and_eq_true, decide_eq_true_eq]
  constructor
  · rintro ⟨h1, h2⟩; exact (list_alike cgSame_iff a b h1).1 h2
  · intro h
    have hl : a.length = b.length := by simpa using congrArg List.length h
    exact ⟨hl, (list_alike cgSame_iff a b hl).2 h⟩
theorem lnSame_iff (a b : Ln) : lnSame a b = true ↔ id a = id b := by
  obtain ⟨⟨a1, a2⟩, a3⟩ := a
  obtain ⟨⟨b1, b2⟩, b3⟩ := b
  simp only [lnSame, Bool.and_eq_true, decide_eq_true_eq, id, Prod.mk.injEq]
theorem lnsSame_iff (a b : List Ln) (hl : a.length = b.length) : allTo (lnsP a b) a.length = true ↔ a = b := by
  have := list_alike (d := ln0) lnSame_iff a b hl
  rw [List.map_id, List.map_id] at this
  exact this
theorem sameMs_iff (a b : Ms) : sameMs a b = true ↔ normM a = normM b := by
  obtain ⟨k1, e1, v1, s1, r1, x1, t1, n1, g1, c1, l1⟩ := a
  obtain ⟨k2, e2, v2, s2, r2, x2, t2, n2, g2, c2, l2⟩ := b
  obtain ⟨x1, y1⟩ := x1
  obtain ⟨x2, y2⟩ := x2
  simp only [sameMs, endSame, Bool.and_eq_true, decide_eq_true_eq, whole_norm, sameS, cgsSame_iff, normM, Ms.mk.injEq, Prod.mk.injEq]
  constructor
  · rintro ⟨h1, h2, h3, h4, h5, h6, h7, h8, ⟨h9, h10⟩, h11, h12, h13⟩
    exact ⟨h1, h2, h3, h4, h8, ⟨h9, h10⟩, h5, h11, h12, h13, (lnsSame_iff _ _ h6).1 h7⟩
  · rintro ⟨h1, h2, h3, h4, h8, ⟨h9, h10⟩, h5, h11, h12, h13, h14⟩
    exact ⟨h1, h2, h3, h4, h5, by rw [h14], (lnsSame_iff _ _ (by rw [h14])).2 h14, h8, ⟨h9, h10⟩, h11, h12, h13⟩
end Go.Proofs.Ytfjcpghepkmbfaa

/- The document's test of two configurations, whatever they are. -/
namespace Go.Proofs.Ytfjcpghepkmbfaa
open Go.RowKit

set_option maxRecDepth 100000 in
set_option maxHeartbeats 1600000 in
theorem vsame_dec (e1 e2 : Int) (a1 a2 : Option Addr) (n1 n2 c1 c2 : Nat) (l1 l2 : List Int) (hn1 : l1.length = n1) (hn2 : l2.length = n2) (hm1 : n1 ≤ maxLen) (hm2 : n2 ≤ maxLen) (w : World) (h1 : IntsIn w a1 l1) (h2 : IntsIn w a2 l2) :
    Calls Try.prog 21 #[.agg #[.int .i64 e1, .slice a1 n1 c1], .agg #[.int .i64 e2, .slice a2 n2 c2]] w fun e w' => e = .returned (.bool (decide (e1 = e2) && decide (l1 = l2))) ∧ Below w.heap.size w w' := by
  have HC : Hid (∀ u : World, IntsIn u a1 l1 → IntsIn u a2 l2 → Calls Try.prog 24 #[.slice a1 n1 c1, .slice a2 n2 c2] u fun e w' => e = .returned (.bool (decide (l1 = l2))) ∧ Below u.heap.size u w') := hid (fun u k1 k2 => sameInts_dec a1 a2 n1 n2 c1 c2 l1 l2 hn1 hn2 hm1 hm2 u k1 k2)
  have HI := hid (And.intro h1 h2)
  clear h1 h2 hn1 hn2 hm1 hm2
  by_cases he : e1 = e2
  · have hb : (e1 == e2) = true := by simpa using he
    rw [decide_eq_true he, Bool.true_and]
    clear he
    generalize decide (l1 = l2) = B at HC
    go_enter Try.func21, Try.ntmps21
    go_wp2_with (go_at_call 24; refine (HC.out _ (by exact (HI.out.1.alloc _).alloc _) (by exact (HI.out.2.alloc _).alloc _)).mono ?_; rintro e w1 ⟨rfl, hb1⟩; have H1 := hid ((((Below.refl w.heap.size w).alloc (Nat.le_refl _) _).alloc (by simp) _).trans (hb1.mono (by simp; omega))); clear hb1)
    go_ret
    exact ⟨rfl, H1.out⟩
  · have hb : (e1 == e2) = false := by simpa using he
    rw [decide_eq_false he, Bool.false_and]
    go_enter Try.func21, Try.ntmps21
    go_wp2
    go_ret
    exact ⟨by simp, ((Below.refl w.heap.size w).alloc (Nat.le_refl _) _).alloc (by simp) _⟩
end Go.Proofs.Ytfjcpghepkmbfaa

/- The document's test of two messages. -/
namespace Go.Proofs.Ytfjcpghepkmbfaa
open Go.RowKit

/-- Both messages laid. -/
structure Ms2 (w W : World) (m n : Ms) (a13 a14 a15 a16 b13 b14 b15 b16 : Option Addr) (c13 c14 c15 c16 d13 d14 d15 d16 : Nat) : Prop where
  x : BxAt W w.heap.size (msA m a13 a14 a15 a16 c13 c14 c15 c16) 34
  y : BxAt W (w.heap.size + 1) (msA n b13 b14 b15 b16 d13 d14 d15 d16) 34
  b : Below w.heap.size w W
theorem Ms2.keep {w W W2 : World} {m n : Ms} {a13 a14 a15 a16 b13 b14 b15 b16 : Option Addr} {c13 c14 c15 c16 d13 d14 d15 d16 : Nat} (h : Ms2 w W m n a13 a14 a15 a16 b13 b14 b15 b16 c13 c14 c15 c16 d13 d14 d15 d16) (hb : Below W.heap.size W W2) : Ms2 w W2 m n a13 a14 a15 a16 b13 b14 b15 b16 c13 c14 c15 c16 d13 d14 d15 d16 := ⟨h.x.keep hb, h.y.keep hb, h.b.trans (hb.mono h.b.size)⟩
theorem ms2_new (m n : Ms) (a13 a14 a15 a16 b13 b14 b15 b16 : Option Addr) (c13 c14 c15 c16 d13 d14 d15 d16 : Nat) (w : World) : ∃ W, (w.alloc (.cells (msA m a13 a14 a15 a16 c13 c14 c15 c16).toArray 34)).alloc (.cells (msA n b13 b14 b15 b16 d13 d14 d15 d16).toArray 34) = W ∧ Ms2 w W m n a13 a14 a15 a16 b13 b14 b15 b16 c13 c14 c15 c16 d13 d14 d15 d16 := by
  have h1 : Below w.heap.size w (w.alloc (.cells (msA m a13 a14 a15 a16 c13 c14 c15 c16).toArray 34)) := (Below.refl _ _).alloc (Nat.le_refl _) _
  have h2 : Below (w.alloc (.cells (msA m a13 a14 a15 a16 c13 c14 c15 c16).toArray 34)).heap.size (w.alloc (.cells (msA m a13 a14 a15 a16 c13 c14 c15 c16).toArray 34)) ((w.alloc (.cells (msA m a13 a14 a15 a16 c13 c14 c15 c16).toArray 34)).alloc (.cells (msA n b13 b14 b15 b16 d13 d14 d15 d16).toArray 34)) := (Below.refl _ _).alloc (Nat.le_refl _) _
  have hx : BxAt (w.alloc (.cells (msA m a13 a14 a15 a16 c13 c14 c15 c16).toArray 34)) w.heap.size (msA m a13 a14 a15 a16 c13 c14 c15 c16) 34 := heap_alloc_last w _
  refine ⟨_, rfl, hx.keep h2, ?_, h1.trans (h2.mono h1.size)⟩
  have := heap_alloc_last (w.alloc (.cells (msA m a13 a14 a15 a16 c13 c14 c15 c16).toArray 34)) (.cells (msA n b13 b14 b15 b16 d13 d14 d15 d16).toArray 34)
  rw [show (w.alloc (.cells (msA m a13 a14 a15 a16 c13 c14 c15 c16).toArray 34)).heap.size = w.heap.size + 1 by simp] at this
  exact this
set_option maxRecDepth 100000 in
set_option maxHeartbeats 6400000 in
theorem wsm_0 (m n : Ms) (a13 a14 a15 a16 b13 b14 b15 b16 : Option Addr) (c13 c14 c15 c16 d13 d14 d15 d16 : Nat) (w : World) (V : Bool) (hV : V = false) (t0 : (m.k == n.k) = false) :
    Calls Try.prog 10 #[.agg (msA m a13 a14 a15 a16 c13 c14 c15 c16).toArray, .agg (msA n b13 b14 b15 b16 d13 d14 d15 d16).toArray] w fun e w' => e = .returned (.bool V) ∧ Below w.heap.size w w' := by
  obtain ⟨W, HA, hm⟩ := ms2_new m n a13 a14 a15 a16 b13 b14 b15 b16 c13 c14 c15 c16 d13 d14 d15 d16 w
  subst hV
  have H0 := hid hm
  clear hm
  obtain ⟨y0, y1, y2, y3, y4, y5, y6, y7, y8, y9, y10, y11, y12, y13, y14, y15, y16⟩ := msA_at H0.out.x
  obtain ⟨z0, z1, z2, z3, z4, z5, z6, z7, z8, z9, z10, z11, z12, z13, z14, z15, z16⟩ := msA_at H0.out.y
  have p0 : (m.k == n.k) = false := t0
  have q0 : (m.k != n.k) = true := by rw [bne, t0]; rfl
  clear t0
  unfold msA
  simp only [msA] at HA
  replace HA := hid HA
  go_enter Try.func10, Try.ntmps10
  try simp only [List.append]
  go_upto_region 1 with fail
  rw [HA.out]
  go_wp2
  go_ret
  exact ⟨rfl, H0.out.b⟩
set_option maxRecDepth 100000 in
set_option maxHeartbeats 6400000 in
theorem wsm_1 (m n : Ms) (a13 a14 a15 a16 b13 b14 b15 b16 : Option Addr) (c13 c14 c15 c16 d13 d14 d15 d16 : Nat) (w : World) (V : Bool) (hV : V = false) (t0 : (m.k == n.k) = true) (t1 : (m.ep == n.ep) = false) :
    Calls Try.prog 10 #[.agg (msA m a13 a14 a15 a16 c13 c14 c15 c16).toArray, .agg (msA n b13 b14 b15 b16 d13 d14 d15 d16).toArray] w fun e w' => e = .returned (.bool V) ∧ Below w.heap.size w w' := by
  obtain ⟨W, HA, hm⟩ := ms2_new m n a13 a14 a15 a16 b13 b14 b15 b16 c13 c14 c15 c16 d13 d14 d15 d16 w
  subst hV
  have H0 := hid hm
  clear hm
  obtain ⟨y0, y1, y2, y3, y4, y5, y6, y7, y8, y9, y10, y11, y12, y13, y14, y15, y16⟩ := msA_at H0.out.x
  obtain ⟨z0, z1, z2, z3, z4, z5, z6, z7, z8, z9, z10, z11, z12, z13, z14, z15, z16⟩ := msA_at H0.out.y
  have p0 : (m.k == n.k) = true := t0
  have q0 : (m.k != n.k) = false := by rw [bne, t0]; rfl
  have p1 : (m.ep == n.ep) = false := t1
  have q1 : (m.ep != n.ep) = true := by rw [bne, t1]; rfl
  clear t0 t1
  unfold msA
  simp only [msA] at HA
  replace HA := hid HA
  go_enter Try.func10, Try.ntmps10
  try simp only [List.append]
  go_upto_region 1 with fail
  rw [HA.out]
  go_wp2
  go_ret
  exact ⟨rfl, H0.out.b⟩
set_option maxRecDepth 100000 in
set_option maxHeartbeats 6400000 in
theorem wsm_2 (m n : Ms) (a13 a14 a15 a16 b13 b14 b15 b16 : Option Addr) (c13 c14 c15 c16 d13 d14 d15 d16 : Nat) (w : World) (V : Bool) (hV : V = false) (t0 : (m.k == n.k) = true) (t1 : (m.ep == n.ep) = true) (t2 : (m.v == n.v) = false) :
    Calls Try.prog 10 #[.agg (msA m a13 a14 a15 a16 c13 c14 c15 c16).toArray, .agg (msA n b13 b14 b15 b16 d13 d14 d15 d16).toArray] w fun e w' => e = .returned (.bool V) ∧ Below w.heap.size w w' := by
  obtain ⟨W, HA, hm⟩ := ms2_new m n a13 a14 a15 a16 b13 b14 b15 b16 c13 c14 c15 c16 d13 d14 d15 d16 w
  subst hV
  have H0 := hid hm
  clear hm
  obtain ⟨y0, y1, y2, y3, y4, y5, y6, y7, y8, y9, y10, y11, y12, y13, y14, y15, y16⟩ := msA_at H0.out.x
  obtain ⟨z0, z1, z2, z3, z4, z5, z6, z7, z8, z9, z10, z11, z12, z13, z14, z15, z16⟩ := msA_at H0.out.y
  have p0 : (m.k == n.k) = true := t0
  have q0 : (m.k != n.k) = false := by rw [bne, t0]; rfl
  have p1 : (m.ep == n.ep) = true := t1
  have q1 : (m.ep != n.ep) = false := by rw [bne, t1]; rfl
  have p2 : (m.v == n.v) = false := t2
  have q2 : (m.v != n.v) = true := by rw [bne, t2]; rfl
  clear t0 t1 t2
  unfold msA
  simp only [msA] at HA
  replace HA := hid HA
  go_enter Try.func10, Try.ntmps10
  try simp only [List.append]
  go_upto_region 1 with fail
  rw [HA.out]
  go_wp2
  go_ret
  exact ⟨rfl, H0.out.b⟩
set_option maxRecDepth 100000 in
set_option maxHeartbeats 6400000 in
theorem wsm_3 (m n : Ms) (a13 a14 a15 a16 b13 b14 b15 b16 : Option Addr) (c13 c14 c15 c16 d13 d14 d15 d16 : Nat) (w : World) (V : Bool) (hV : V = false) (t0 : (m.k == n.k) = true) (t1 : (m.ep == n.ep) = true) (t2 : (m.v == n.v) = true) (t3 : (m.sl == n.sl) = false) :
    Calls Try.prog 10 #[.agg (msA m a13 a14 a15 a16 c13 c14 c15 c16).toArray, .agg (msA n b13 b14 b15 b16 d13 d14 d15 d16).toArray] w fun e w' => e = .returned (.bool V) ∧ Below w.heap.size w w' := by
  obtain ⟨W, HA, hm⟩ := ms2_new m n a13 a14 a15 a16 b13 b14 b15 b16 c13 c14 c15 c16 d13 d14 d15 d16 w
  subst hV
  have H0 := hid hm
  clear hm
  obtain ⟨y0, y1, y2, y3, y4, y5, y6, y7, y8, y9, y10, y11, y12, y13, y14, y15, y16⟩ := msA_at H0.out.x
  obtain ⟨z0, z1, z2, z3, z4, z5, z6, z7, z8, z9, z10, z11, z12, z13, z14, z15, z16⟩ := msA_at H0.out.y
  have p0 : (m.k == n.k) = true := t0
  have q0 : (m.k != n.k) = false := by rw [bne, t0]; rfl
  have p1 : (m.ep == n.ep) = true := t1
  have q1 : (m.ep != n.ep) = false := by rw [bne, t1]; rfl
  have p2 : (m.v == n.v) = true := t2
  have q2 : (m.v != n.v) = false := by rw [bne, t2]; rfl
  have p3 : (m.sl == n.sl) = false := t3
  have q3 : (m.sl != n.sl) = true := by rw [bne, t3]; rfl
  clear t0 t1 t2 t3
  unfold msA
  simp only [msA] at HA
  replace HA := hid HA
  go_enter Try.func10, Try.ntmps10
  try simp only [List.append]
  go_upto_region 1 with fail
  rw [HA.out]
  go_wp2
  go_ret
  exact ⟨rfl, H0.out.b⟩
set_option maxRecDepth 100000 in
set_option maxHeartbeats 6400000 in
theorem wsm_4 (m n : Ms) (a13 a14 a15 a16 b13 b14 b15 b16 : Option Addr) (c13 c14 c15 c16 d13 d14 d15 d16 : Nat) (w : World) (V : Bool) (hV : V = false) (t0 : (m.k == n.k) = true) (t1 : (m.ep == n.ep) = true) (t2 : (m.v == n.v) = true) (t3 : (m.sl == n.sl) = true) (t4 : (m.tx.toList == n.tx.toList) = false) :
    Calls Try.prog 10 #[.agg (msA m a13 a14 a15 a16 c13 c14 c15 c16).toArray, .agg (msA n b13 b14 b15 b16 d13 d14 d15 d16).toArray] w fun e w' => e = .returned (.bool V) ∧ Below w.heap.size w w' := by
  obtain ⟨W, HA, hm⟩ := ms2_new m n a13 a14 a15 a16 b13 b14 b15 b16 c13 c14 c15 c16 d13 d14 d15 d16 w
  subst hV
  have H0 := hid hm
  clear hm
  obtain ⟨y0, y1, y2, y3, y4, y5, y6, y7, y8, y9, y10, y11, y12, y13, y14, y15, y16⟩ := msA_at H0.out.x
  obtain ⟨z0, z1, z2, z3, z4, z5, z6, z7, z8, z9, z10, z11, z12, z13, z14, z15, z16⟩ := msA_at H0.out.y
  have p0 : (m.k == n.k) = true := t0
  have q0 : (m.k != n.k) = false := by rw [bne, t0]; rfl
  have p1 : (m.ep == n.ep) = true := t1
  have q1 : (m.ep != n.ep) = false := by rw [bne, t1]; rfl
  have p2 : (m.v == n.v) = true := t2
  have q2 : (m.v != n.v) = false := by rw [bne, t2]; rfl
  have p3 : (m.sl == n.sl) = true := t3
  have q3 : (m.sl != n.sl) = false := by rw [bne, t3]; rfl
  have p4 : (m.tx.toList == n.tx.toList) = false := t4
  clear t0 t1 t2 t3 t4
  unfold msA
  simp only [msA] at HA
  replace HA := hid HA
  go_enter Try.func10, Try.ntmps10
  try simp only [List.append]
  go_upto_region 1 with fail
  rw [HA.out]
  go_wp2
  go_ret
  exact ⟨rfl, H0.out.b⟩
set_option maxRecDepth 100000 in
set_option maxHeartbeats 6400000 in
theorem wsm_5 (m n : Ms) (a13 a14 a15 a16 b13 b14 b15 b16 : Option Addr) (c13 c14 c15 c16 d13 d14 d15 d16 : Nat) (w : World) (V : Bool) (hV : V = false) (t0 : (m.k == n.k) = true) (t1 : (m.ep == n.ep) = true) (t2 : (m.v == n.v) = true) (t3 : (m.sl == n.sl) = true) (t4 : (m.tx.toList == n.tx.toList) = true) (t5 : ((m.ln.length : Int) == (n.ln.length : Int)) = false) :
    Calls Try.prog 10 #[.agg (msA m a13 a14 a15 a16 c13 c14 c15 c16).toArray, .agg (msA n b13 b14 b15 b16 d13 d14 d15 d16).toArray] w fun e w' => e = .returned (.bool V) ∧ Below w.heap.size w w' := by
  obtain ⟨W, HA, hm⟩ := ms2_new m n a13 a14 a15 a16 b13 b14 b15 b16 c13 c14 c15 c16 d13 d14 d15 d16 w
  subst hV
  have H0 := hid hm
  clear hm
  obtain ⟨y0, y1, y2, y3, y4, y5, y6, y7, y8, y9, y10, y11, y12, y13, y14, y15, y16⟩ := msA_at H0.out.x
  obtain ⟨z0, z1, z2, z3, z4, z5, z6, z7, z8, z9, z10, z11, z12, z13, z14, z15, z16⟩ := msA_at H0.out.y
  have p0 : (m.k == n.k) = true := t0
  have q0 : (m.k != n.k) = false := by rw [bne, t0]; rfl
  have p1 : (m.ep == n.ep) = true := t1
  have q1 : (m.ep != n.ep) = false := by rw [bne, t1]; rfl
  have p2 : (m.v == n.v) = true := t2
  have q2 : (m.v != n.v) = false := by rw [bne, t2]; rfl
  have p3 : (m.sl == n.sl) = true := t3
  have q3 : (m.sl != n.sl) = false := by rw [bne, t3]; rfl
  have p4 : (m.tx.toList == n.tx.toList) = true := t4
  have p5 : ((m.ln.length : Int) == (n.ln.length : Int)) = false := t5
  have q5 : ((m.ln.length : Int) != (n.ln.length : Int)) = true := by rw [bne, t5]; rfl
  clear t0 t1 t2 t3 t4 t5
  unfold msA
  simp only [msA] at HA
  replace HA := hid HA
  go_enter Try.func10, Try.ntmps10
  try simp only [List.append]
  go_upto_region 1 with fail
  rw [HA.out]
  go_wp2
  go_ret
  exact ⟨rfl, H0.out.b⟩
/-- What its lists may measure. -/
structure MsN (m : Ms) : Prop where
  nx : m.nx.length ≤ maxLen
  sg : m.sg.length ≤ maxLen
  cg : m.cg.length ≤ maxLen ∧ ∀ x, x ∈ m.cg → cgN x
  ln : m.ln.length ≤ maxLen ∧ ∀ x, x ∈ m.ln → x.1.2.length ≤ maxLen ∧ x.2.length ≤ maxLen
theorem MsB.n {m : Ms} (h : MsB m) : MsN m := ⟨h.nx.1, h.sg.1, ⟨h.cg.1, fun x hx => ⟨(h.cg.2 x hx).2.1.1, fun c hc => ((h.cg.2 x hx).2.1.2 c hc).2.2.1⟩⟩, ⟨h.ln.1, fun x hx => ⟨(h.ln.2 x hx).2.1.1, (h.ln.2 x hx).2.2.1⟩⟩⟩
theorem sl_pairs {F : Nat → Prop} {w : World} {a : Option Addr} {n c : Nat} {ps : List Sg} (h : Reads F w (.slice a n c) (dPairs ps)) : PairsIn w a ps := by
  obtain ⟨ad, cap, hv, hp, _⟩ := reads_pairs h
  cases hv
  exact hp
theorem sl_ints {F : Nat → Prop} {w : World} {a : Option Addr} {n c : Nat} {xs : List Int} (h : Reads F w (.slice a n c) (dInts xs)) : IntsIn w a xs := by
  obtain ⟨ad, cap, hv, hp, _⟩ := reads_ints h
  cases hv
  exact hp
theorem getD_in {α : Type} {l : List α} {d : α} {i : Nat} (h : i < l.length) : l.getD i d ∈ l := by rw [List.getD_eq_getElem?_getD, List.getElem?_eq_getElem h]; exact List.getElem_mem h
set_option maxRecDepth 100000 in
set_option maxHeartbeats 6400000 in
theorem wsm_tail {F G : Nat → Prop} (m n : Ms) (a13 a14 a15 a16 b13 b14 b15 b16 : Option Addr) (c13 c14 c15 c16 d13 d14 d15 d16 : Nat) (w : World) (hB : MsN m) (hC : MsN n) (hL : MsL F w m (.slice a13 m.nx.length c13) (.slice a14 m.sg.length c14) (.slice a15 m.cg.length c15) (.slice a16 m.ln.length c16)) (hR : MsL G w n (.slice b13 n.nx.length d13) (.slice b14 n.sg.length d14) (.slice b15 n.cg.length d15) (.slice b16 n.ln.length d16)) (V : Bool) (hV : V = (allTo (lnsP m.ln n.ln) m.ln.length && endSame m n)) (t0 : (m.k == n.k) = true) (t1 : (m.ep == n.ep) = true) (t2 : (m.v == n.v) = true) (t3 : (m.sl == n.sl) = true) (t4 : (m.tx.toList == n.tx.toList) = true) (t5 : ((m.ln.length : Int) == (n.ln.length : Int)) = true) :
    Calls Try.prog 10 #[.agg (msA m a13 a14 a15 a16 c13 c14 c15 c16).toArray, .agg (msA n b13 b14 b15 b16 d13 d14 d15 d16).toArray] w fun e w' => e = .returned (.bool V) ∧ Below w.heap.size w w' := by
  obtain ⟨W, HA, hm⟩ := ms2_new m n a13 a14 a15 a16 b13 b14 b15 b16 c13 c14 c15 c16 d13 d14 d15 d16 w
  have hl : m.ln.length = n.ln.length := by have := beq_iff_eq.1 t5; omega
  obtain ⟨L, eL⟩ : ∃ L, L = m.ln.length := ⟨_, rfl⟩
  have HL := hid (And.intro eL (eL.trans hl))
  have hLI : (L : Int) ≤ 9223372036854775807 := by have := hB.ln.1; unfold maxLen at this; omega
  rw [← eL] at hV
  have HV := hid hV
  have HI := hid (And.intro (And.intro hB hC) (And.intro hL hR))
  have H0 := hid hm
  clear hm hV hB hC hL hR
  have cy := (msA_at H0.out.x)
  have cz := (msA_at H0.out.y)
  rw [← eL] at cy
  rw [← hl, ← eL] at cz
  rw [← hl, ← eL] at t5
  obtain ⟨y0, y1, y2, y3, y4, y5, y6, y7, y8, y9, y10, y11, y12, y13, y14, y15, y16⟩ := cy
  obtain ⟨z0, z1, z2, z3, z4, z5, z6, z7, z8, z9, z10, z11, z12, z13, z14, z15, z16⟩ := cz
  have p0 : (m.k == n.k) = true := t0
  have q0 : (m.k != n.k) = false := by rw [bne, t0]; rfl
  have p1 : (m.ep == n.ep) = true := t1
  have q1 : (m.ep != n.ep) = false := by rw [bne, t1]; rfl
  have p2 : (m.v == n.v) = true := t2
  have q2 : (m.v != n.v) = false := by rw [bne, t2]; rfl
  have p3 : (m.sl == n.sl) = true := t3
  have q3 : (m.sl != n.sl) = false := by rw [bne, t3]; rfl
  have p4 : (m.tx.toList == n.tx.toList) = true := t4
  have p5 : ((L : Int) == (L : Int)) = true := t5
  have q5 : ((L : Int) != (L : Int)) = false := by rw [bne, t5]; rfl
  clear t0 t1 t2 t3 t4 t5
  unfold msA
  simp only [msA] at HA
  rw [← hl, ← eL] at HA ⊢
  clear eL hl
  replace HA := hid HA
  go_enter Try.func10, Try.ntmps10
  try simp only [List.append]
  go_upto_region 1 with fail
  rw [HA.out]
  go_wp2
  clear y0 y1 y2 y3 y4 y5 y6 y7 y8 y9 y10 y11 y12 y13 y14 y15 y16 z0 z1 z2 z3 z4 z5 z6 z7 z8 z9 z10 z11 z12 z13 z14 z15 z16 p0 p1 p2 p3 p4 p5 q0 q1 q2 q3 q5
  go_loopw [5] (fun i wr => ∃ j : Nat, j ≤ L ∧ i = .int .i64 (j : Int) ∧ Below W.heap.size W wr ∧ allTo (lnsP m.ln n.ln) j = true)
    (fun i _ => ((L : Int) - intOf i).toNat)
  case atStart => exact ⟨0, Nat.zero_le _, rfl, Below.refl _ _, rfl⟩
  case round =>
    obtain ⟨j, hj, rfl, hbel, hok⟩ := hrel
    have HM := hid (H0.out.keep hbel)
    have HOk := hid hok
    have HBW := hid hbel
    clear hbel hok
    have cy := (msA_at HM.out.x)
    have cz := (msA_at HM.out.y)
    rw [← HL.out.1] at cy
    rw [← HL.out.2] at cz
    obtain ⟨y0, y1, y2, y3, y4, y5, y6, y7, y8, y9, y10, y11, y12, y13, y14, y15, y16⟩ := cy
    obtain ⟨z0, z1, z2, z3, z4, z5, z6, z7, z8, z9, z10, z11, z12, z13, z14, z15, z16⟩ := cz
    have hj0 : (0 : Int) ≤ (j : Int) := Int.natCast_nonneg _
    by_cases hjn : j = L
    · have hj1 : ¬ ((j : Int) < (L : Int)) := by omega
      have hvE : Hid (V = endSame m n) := hid (by rw [HV.out, ← hjn, HOk.out]; rfl)
      have HT1 := hid (show Tst wr 22 #[.agg #[.int .i64 m.rq.c, .int .i64 m.rq.st, .int .i64 m.rq.k, .string m.rq.key, .float .f64 m.rq.b, .int .i64 m.rq.id], .agg #[.int .i64 n.rq.c, .int .i64 n.rq.st, .int .i64 n.rq.k, .string n.rq.key, .float .f64 n.rq.b, .int .i64 n.rq.id]] (.bool (wholeB m.rq n.rq)) from fun u hu => qwhole_any m.rq n.rq u)
      have HT2 := hid (show Tst wr 23 #[.agg #[.int .i64 m.rs.1, .float .f64 m.rs.2], .agg #[.int .i64 n.rs.1, .float .f64 n.rs.2]] (.bool (sameS m.rs.1 m.rs.2 n.rs.1 n.rs.2)) from fun u hu => qsameResult_any m.rs.1 m.rs.2 n.rs.1 n.rs.2 u)
      have HT3 := hid (show Tst wr 24 #[.slice a13 m.nx.length c13, .slice b13 n.nx.length d13] (.bool (decide (m.nx = n.nx))) from fun u hu => sameInts_dec a13 b13 _ _ c13 d13 m.nx n.nx rfl rfl HI.out.1.1.nx HI.out.1.2.nx u ((sl_ints HI.out.2.1.nx).keep (HM.out.b.trans (hu.mono HM.out.b.size)) (Nat.le_refl _)) ((sl_ints HI.out.2.2.nx).keep (HM.out.b.trans (hu.mono HM.out.b.size)) (Nat.le_refl _)))
      have HT4 := hid (show Tst wr 13 #[.slice a14 m.sg.length c14, .slice b14 n.sg.length d14] (.bool (decide (m.sg = n.sg))) from fun u hu => wsame_dec a14 b14 _ _ c14 d14 m.sg n.sg rfl rfl HI.out.1.1.sg HI.out.1.2.sg u ((sl_pairs HI.out.2.1.sg).keep (HM.out.b.trans (hu.mono HM.out.b.size)) (Nat.le_refl _)) ((sl_pairs HI.out.2.2.sg).keep (HM.out.b.trans (hu.mono HM.out.b.size)) (Nat.le_refl _)))
      have HT5 := hid (show Tst wr 25 #[.slice a15 m.cg.length c15, .slice b15 n.cg.length d15] (.bool (cgsSame m.cg n.cg)) from fun u hu => wsameChanges_any a15 b15 _ _ c15 d15 m.cg n.cg rfl rfl HI.out.1.1.cg.1 HI.out.1.1.cg.2 HI.out.1.2.cg.2 u (HI.out.2.1.cg.under (HM.out.b.trans (hu.mono HM.out.b.size)) (Nat.le_refl _)) (HI.out.2.2.cg.under (HM.out.b.trans (hu.mono HM.out.b.size)) (Nat.le_refl _)))
      clear hj hjn
      cases x1 : (wholeB m.rq n.rq) with
      | false =>
       rw [x1] at HT1
       have hv : Hid (V = false) := hid (by rw [hvE.out, endSame, x1] <;> rfl)
       clear x1
       go_wp2_with (first
         | (have := HM; go_at_call 22; go_must (refine (HT1.out _ (Below.refl _ _)).mono ?_); rintro e v1 ⟨rfl, hb⟩; have HM1 := hid (HM.out.keep hb); have HB1 := hid (hb); clear hb y0 y1 y2 y3 y4 y5 y6 y7 y8 y9 y10 y11 y12 y13 y14 y15 y16 z0 z1 z2 z3 z4 z5 z6 z7 z8 z9 z10 z11 z12 z13 z14 z15 z16; obtain ⟨y0, y1, y2, y3, y4, y5, y6, y7, y8, y9, y10, y11, y12, y13, y14, y15, y16⟩ := msA_at HM1.out.x; obtain ⟨z0, z1, z2, z3, z4, z5, z6, z7, z8, z9, z10, z11, z12, z13, z14, z15, z16⟩ := msA_at HM1.out.y))
       go_ret
       exact ⟨by rw [hv.out]; rfl, HM1.out.b⟩
      | true =>
       rw [x1] at HT1
       cases x2 : (sameS m.rs.1 m.rs.2 n.rs.1 n.rs.2) with
       | false =>
        rw [x2] at HT2
        have hv : Hid (V = false) := hid (by rw [hvE.out, endSame, x1, x2] <;> rfl)
        clear x1 x2
        go_wp2_with (first
          | (have := HM1; go_at_call 23; go_must (refine (HT2.out _ HB1.out).mono ?_); rintro e v2 ⟨rfl, hb⟩; have HM2 := hid (HM1.out.keep hb); have HB2 := hid ((HB1.out.trans (hb.mono HB1.out.size))); clear hb y0 y1 y2 y3 y4 y5 y6 y7 y8 y9 y10 y11 y12 y13 y14 y15 y16 z0 z1 z2 z3 z4 z5 z6 z7 z8 z9 z10 z11 z12 z13 z14 z15 z16; obtain ⟨y0, y1, y2, y3, y4, y5, y6, y7, y8, y9, y10, y11, y12, y13, y14, y15, y16⟩ := msA_at HM2.out.x; obtain ⟨z0, z1, z2, z3, z4, z5, z6, z7, z8, z9, z10, z11, z12, z13, z14, z15, z16⟩ := msA_at HM2.out.y)
          | (have := HM; go_at_call 22; go_must (refine (HT1.out _ (Below.refl _ _)).mono ?_); rintro e v1 ⟨rfl, hb⟩; have HM1 := hid (HM.out.keep hb); have HB1 := hid (hb); clear hb y0 y1 y2 y3 y4 y5 y6 y7 y8 y9 y10 y11 y12 y13 y14 y15 y16 z0 z1 z2 z3 z4 z5 z6 z7 z8 z9 z10 z11 z12 z13 z14 z15 z16; obtain ⟨y0, y1, y2, y3, y4, y5, y6, y7, y8, y9, y10, y11, y12, y13, y14, y15, y16⟩ := msA_at HM1.out.x; obtain ⟨z0, z1, z2, z3, z4, z5, z6, z7, z8, z9, z10, z11, z12, z13, z14, z15, z16⟩ := msA_at HM1.out.y))
        go_ret
        exact ⟨by rw [hv.out]; rfl, HM2.out.b⟩
       | true =>
        rw [x2] at HT2
        cases x3 : (decide (m.nx = n.nx)) with
        | false =>
         rw [x3] at HT3
         have hv : Hid (V = false) := hid (by rw [hvE.out, endSame, x1, x2, x3] <;> rfl)
         clear x1 x2 x3
         go_wp2_with (first
           | (have := HM2; go_at_call 24; go_must (refine (HT3.out _ HB2.out).mono ?_); rintro e v3 ⟨rfl, hb⟩; have HM3 := hid (HM2.out.keep hb); have HB3 := hid ((HB2.out.trans (hb.mono HB2.out.size))); clear hb y0 y1 y2 y3 y4 y5 y6 y7 y8 y9 y10 y11 y12 y13 y14 y15 y16 z0 z1 z2 z3 z4 z5 z6 z7 z8 z9 z10 z11 z12 z13 z14 z15 z16; obtain ⟨y0, y1, y2, y3, y4, y5, y6, y7, y8, y9, y10, y11, y12, y13, y14, y15, y16⟩ := msA_at HM3.out.x; obtain ⟨z0, z1, z2, z3, z4, z5, z6, z7, z8, z9, z10, z11, z12, z13, z14, z15, z16⟩ := msA_at HM3.out.y)
           | (have := HM1; go_at_call 23; go_must (refine (HT2.out _ HB1.out).mono ?_); rintro e v2 ⟨rfl, hb⟩; have HM2 := hid (HM1.out.keep hb); have HB2 := hid ((HB1.out.trans (hb.mono HB1.out.size))); clear hb y0 y1 y2 y3 y4 y5 y6 y7 y8 y9 y10 y11 y12 y13 y14 y15 y16 z0 z1 z2 z3 z4 z5 z6 z7 z8 z9 z10 z11 z12 z13 z14 z15 z16; obtain ⟨y0, y1, y2, y3, y4, y5, y6, y7, y8, y9, y10, y11, y12, y13, y14, y15, y16⟩ := msA_at HM2.out.x; obtain ⟨z0, z1, z2, z3, z4, z5, z6, z7, z8, z9, z10, z11, z12, z13, z14, z15, z16⟩ := msA_at HM2.out.y)
           | (have := HM; go_at_call 22; go_must (refine (HT1.out _ (Below.refl _ _)).mono ?_); rintro e v1 ⟨rfl, hb⟩; have HM1 := hid (HM.out.keep hb); have HB1 := hid (hb); clear hb y0 y1 y2 y3 y4 y5 y6 y7 y8 y9 y10 y11 y12 y13 y14 y15 y16 z0 z1 z2 z3 z4 z5 z6 z7 z8 z9 z10 z11 z12 z13 z14 z15 z16; obtain ⟨y0, y1, y2, y3, y4, y5, y6, y7, y8, y9, y10, y11, y12, y13, y14, y15, y16⟩ := msA_at HM1.out.x; obtain ⟨z0, z1, z2, z3, z4, z5, z6, z7, z8, z9, z10, z11, z12, z13, z14, z15, z16⟩ := msA_at HM1.out.y))
         go_ret
         exact ⟨by rw [hv.out]; rfl, HM3.out.b⟩
        | true =>
         rw [x3] at HT3
         cases x4 : (decide (m.sg = n.sg)) with
         | false =>
          rw [x4] at HT4
          have hv : Hid (V = false) := hid (by rw [hvE.out, endSame, x1, x2, x3, x4] <;> rfl)
          clear x1 x2 x3 x4
          go_wp2_with (first
            | (have := HM3; go_at_call 13; go_must (refine (HT4.out _ HB3.out).mono ?_); rintro e v4 ⟨rfl, hb⟩; have HM4 := hid (HM3.out.keep hb); have HB4 := hid ((HB3.out.trans (hb.mono HB3.out.size))); clear hb y0 y1 y2 y3 y4 y5 y6 y7 y8 y9 y10 y11 y12 y13 y14 y15 y16 z0 z1 z2 z3 z4 z5 z6 z7 z8 z9 z10 z11 z12 z13 z14 z15 z16; obtain ⟨y0, y1, y2, y3, y4, y5, y6, y7, y8, y9, y10, y11, y12, y13, y14, y15, y16⟩ := msA_at HM4.out.x; obtain ⟨z0, z1, z2, z3, z4, z5, z6, z7, z8, z9, z10, z11, z12, z13, z14, z15, z16⟩ := msA_at HM4.out.y)
            | (have := HM2; go_at_call 24; go_must (refine (HT3.out _ HB2.out).mono ?_); rintro e v3 ⟨rfl, hb⟩; have HM3 := hid (HM2.out.keep hb); have HB3 := hid ((HB2.out.trans (hb.mono HB2.out.size))); clear hb y0 y1 y2 y3 y4 y5 y6 y7 y8 y9 y10 y11 y12 y13 y14 y15 y16 z0 z1 z2 z3 z4 z5 z6 z7 z8 z9 z10 z11 z12 z13 z14 z15 z16; obtain ⟨y0, y1, y2, y3, y4, y5, y6, y7, y8, y9, y10, y11, y12, y13, y14, y15, y16⟩ := msA_at HM3.out.x; obtain ⟨z0, z1, z2, z3, z4, z5, z6, z7, z8, z9, z10, z11, z12, z13, z14, z15, z16⟩ := msA_at HM3.out.y)
            | (have := HM1; go_at_call 23; go_must (refine (HT2.out _ HB1.out).mono ?_); rintro e v2 ⟨rfl, hb⟩; have HM2 := hid (HM1.out.keep hb); have HB2 := hid ((HB1.out.trans (hb.mono HB1.out.size))); clear hb y0 y1 y2 y3 y4 y5 y6 y7 y8 y9 y10 y11 y12 y13 y14 y15 y16 z0 z1 z2 z3 z4 z5 z6 z7 z8 z9 z10 z11 z12 z13 z14 z15 z16; obtain ⟨y0, y1, y2, y3, y4, y5, y6, y7, y8, y9, y10, y11, y12, y13, y14, y15, y16⟩ := msA_at HM2.out.x; obtain ⟨z0, z1, z2, z3, z4, z5, z6, z7, z8, z9, z10, z11, z12, z13, z14, z15, z16⟩ := msA_at HM2.out.y)
            | (have := HM; go_at_call 22; go_must (refine (HT1.out _ (Below.refl _ _)).mono ?_); rintro e v1 ⟨rfl, hb⟩; have HM1 := hid (HM.out.keep hb); have HB1 := hid (hb); clear hb y0 y1 y2 y3 y4 y5 y6 y7 y8 y9 y10 y11 y12 y13 y14 y15 y16 z0 z1 z2 z3 z4 z5 z6 z7 z8 z9 z10 z11 z12 z13 z14 z15 z16; obtain ⟨y0, y1, y2, y3, y4, y5, y6, y7, y8, y9, y10, y11, y12, y13, y14, y15, y16⟩ := msA_at HM1.out.x; obtain ⟨z0, z1, z2, z3, z4, z5, z6, z7, z8, z9, z10, z11, z12, z13, z14, z15, z16⟩ := msA_at HM1.out.y))
          go_ret
          exact ⟨by rw [hv.out]; rfl, HM4.out.b⟩
         | true =>
          rw [x4] at HT4
          cases x5 : (cgsSame m.cg n.cg) with
          | false =>
           rw [x5] at HT5
           have hv : Hid (V = false) := hid (by rw [hvE.out, endSame, x1, x2, x3, x4, x5] <;> rfl)
           clear x1 x2 x3 x4 x5
           go_wp2_with (first
             | (have := HM4; go_at_call 25; go_must (refine (HT5.out _ HB4.out).mono ?_); rintro e v5 ⟨rfl, hb⟩; have HM5 := hid (HM4.out.keep hb); have HB5 := hid ((HB4.out.trans (hb.mono HB4.out.size))); clear hb y0 y1 y2 y3 y4 y5 y6 y7 y8 y9 y10 y11 y12 y13 y14 y15 y16 z0 z1 z2 z3 z4 z5 z6 z7 z8 z9 z10 z11 z12 z13 z14 z15 z16; obtain ⟨y0, y1, y2, y3, y4, y5, y6, y7, y8, y9, y10, y11, y12, y13, y14, y15, y16⟩ := msA_at HM5.out.x; obtain ⟨z0, z1, z2, z3, z4, z5, z6, z7, z8, z9, z10, z11, z12, z13, z14, z15, z16⟩ := msA_at HM5.out.y)
             | (have := HM3; go_at_call 13; go_must (refine (HT4.out _ HB3.out).mono ?_); rintro e v4 ⟨rfl, hb⟩; have HM4 := hid (HM3.out.keep hb); have HB4 := hid ((HB3.out.trans (hb.mono HB3.out.size))); clear hb y0 y1 y2 y3 y4 y5 y6 y7 y8 y9 y10 y11 y12 y13 y14 y15 y16 z0 z1 z2 z3 z4 z5 z6 z7 z8 z9 z10 z11 z12 z13 z14 z15 z16; obtain ⟨y0, y1, y2, y3, y4, y5, y6, y7, y8, y9, y10, y11, y12, y13, y14, y15, y16⟩ := msA_at HM4.out.x; obtain ⟨z0, z1, z2, z3, z4, z5, z6, z7, z8, z9, z10, z11, z12, z13, z14, z15, z16⟩ := msA_at HM4.out.y)
             | (have := HM2; go_at_call 24; go_must (refine (HT3.out _ HB2.out).mono ?_); rintro e v3 ⟨rfl, hb⟩; have HM3 := hid (HM2.out.keep hb); have HB3 := hid ((HB2.out.trans (hb.mono HB2.out.size))); clear hb y0 y1 y2 y3 y4 y5 y6 y7 y8 y9 y10 y11 y12 y13 y14 y15 y16 z0 z1 z2 z3 z4 z5 z6 z7 z8 z9 z10 z11 z12 z13 z14 z15 z16; obtain ⟨y0, y1, y2, y3, y4, y5, y6, y7, y8, y9, y10, y11, y12, y13, y14, y15, y16⟩ := msA_at HM3.out.x; obtain ⟨z0, z1, z2, z3, z4, z5, z6, z7, z8, z9, z10, z11, z12, z13, z14, z15, z16⟩ := msA_at HM3.out.y)
             | (have := HM1; go_at_call 23; go_must (refine (HT2.out _ HB1.out).mono ?_); rintro e v2 ⟨rfl, hb⟩; have HM2 := hid (HM1.out.keep hb); have HB2 := hid ((HB1.out.trans (hb.mono HB1.out.size))); clear hb y0 y1 y2 y3 y4 y5 y6 y7 y8 y9 y10 y11 y12 y13 y14 y15 y16 z0 z1 z2 z3 z4 z5 z6 z7 z8 z9 z10 z11 z12 z13 z14 z15 z16; obtain ⟨y0, y1, y2, y3, y4, y5, y6, y7, y8, y9, y10, y11, y12, y13, y14, y15, y16⟩ := msA_at HM2.out.x; obtain ⟨z0, z1, z2, z3, z4, z5, z6, z7, z8, z9, z10, z11, z12, z13, z14, z15, z16⟩ := msA_at HM2.out.y)
             | (have := HM; go_at_call 22; go_must (refine (HT1.out _ (Below.refl _ _)).mono ?_); rintro e v1 ⟨rfl, hb⟩; have HM1 := hid (HM.out.keep hb); have HB1 := hid (hb); clear hb y0 y1 y2 y3 y4 y5 y6 y7 y8 y9 y10 y11 y12 y13 y14 y15 y16 z0 z1 z2 z3 z4 z5 z6 z7 z8 z9 z10 z11 z12 z13 z14 z15 z16; obtain ⟨y0, y1, y2, y3, y4, y5, y6, y7, y8, y9, y10, y11, y12, y13, y14, y15, y16⟩ := msA_at HM1.out.x; obtain ⟨z0, z1, z2, z3, z4, z5, z6, z7, z8, z9, z10, z11, z12, z13, z14, z15, z16⟩ := msA_at HM1.out.y))
           go_ret
           exact ⟨by rw [hv.out]; rfl, HM5.out.b⟩
          | true =>
           rw [x5] at HT5
           have hv : Hid (V = true) := hid (by rw [hvE.out, endSame, x1, x2, x3, x4, x5] <;> rfl)
           clear x1 x2 x3 x4 x5
           go_wp2_with (first
             | (have := HM4; go_at_call 25; go_must (refine (HT5.out _ HB4.out).mono ?_); rintro e v5 ⟨rfl, hb⟩; have HM5 := hid (HM4.out.keep hb); have HB5 := hid ((HB4.out.trans (hb.mono HB4.out.size))); clear hb y0 y1 y2 y3 y4 y5 y6 y7 y8 y9 y10 y11 y12 y13 y14 y15 y16 z0 z1 z2 z3 z4 z5 z6 z7 z8 z9 z10 z11 z12 z13 z14 z15 z16; obtain ⟨y0, y1, y2, y3, y4, y5, y6, y7, y8, y9, y10, y11, y12, y13, y14, y15, y16⟩ := msA_at HM5.out.x; obtain ⟨z0, z1, z2, z3, z4, z5, z6, z7, z8, z9, z10, z11, z12, z13, z14, z15, z16⟩ := msA_at HM5.out.y)
             | (have := HM3; go_at_call 13; go_must (refine (HT4.out _ HB3.out).mono ?_); rintro e v4 ⟨rfl, hb⟩; have HM4 := hid (HM3.out.keep hb); have HB4 := hid ((HB3.out.trans (hb.mono HB3.out.size))); clear hb y0 y1 y2 y3 y4 y5 y6 y7 y8 y9 y10 y11 y12 y13 y14 y15 y16 z0 z1 z2 z3 z4 z5 z6 z7 z8 z9 z10 z11 z12 z13 z14 z15 z16; obtain ⟨y0, y1, y2, y3, y4, y5, y6, y7, y8, y9, y10, y11, y12, y13, y14, y15, y16⟩ := msA_at HM4.out.x; obtain ⟨z0, z1, z2, z3, z4, z5, z6, z7, z8, z9, z10, z11, z12, z13, z14, z15, z16⟩ := msA_at HM4.out.y)
             | (have := HM2; go_at_call 24; go_must (refine (HT3.out _ HB2.out).mono ?_); rintro e v3 ⟨rfl, hb⟩; have HM3 := hid (HM2.out.keep hb); have HB3 := hid ((HB2.out.trans (hb.mono HB2.out.size))); clear hb y0 y1 y2 y3 y4 y5 y6 y7 y8 y9 y10 y11 y12 y13 y14 y15 y16 z0 z1 z2 z3 z4 z5 z6 z7 z8 z9 z10 z11 z12 z13 z14 z15 z16; obtain ⟨y0, y1, y2, y3, y4, y5, y6, y7, y8, y9, y10, y11, y12, y13, y14, y15, y16⟩ := msA_at HM3.out.x; obtain ⟨z0, z1, z2, z3, z4, z5, z6, z7, z8, z9, z10, z11, z12, z13, z14, z15, z16⟩ := msA_at HM3.out.y)
             | (have := HM1; go_at_call 23; go_must (refine (HT2.out _ HB1.out).mono ?_); rintro e v2 ⟨rfl, hb⟩; have HM2 := hid (HM1.out.keep hb); have HB2 := hid ((HB1.out.trans (hb.mono HB1.out.size))); clear hb y0 y1 y2 y3 y4 y5 y6 y7 y8 y9 y10 y11 y12 y13 y14 y15 y16 z0 z1 z2 z3 z4 z5 z6 z7 z8 z9 z10 z11 z12 z13 z14 z15 z16; obtain ⟨y0, y1, y2, y3, y4, y5, y6, y7, y8, y9, y10, y11, y12, y13, y14, y15, y16⟩ := msA_at HM2.out.x; obtain ⟨z0, z1, z2, z3, z4, z5, z6, z7, z8, z9, z10, z11, z12, z13, z14, z15, z16⟩ := msA_at HM2.out.y)
             | (have := HM; go_at_call 22; go_must (refine (HT1.out _ (Below.refl _ _)).mono ?_); rintro e v1 ⟨rfl, hb⟩; have HM1 := hid (HM.out.keep hb); have HB1 := hid (hb); clear hb y0 y1 y2 y3 y4 y5 y6 y7 y8 y9 y10 y11 y12 y13 y14 y15 y16 z0 z1 z2 z3 z4 z5 z6 z7 z8 z9 z10 z11 z12 z13 z14 z15 z16; obtain ⟨y0, y1, y2, y3, y4, y5, y6, y7, y8, y9, y10, y11, y12, y13, y14, y15, y16⟩ := msA_at HM1.out.x; obtain ⟨z0, z1, z2, z3, z4, z5, z6, z7, z8, z9, z10, z11, z12, z13, z14, z15, z16⟩ := msA_at HM1.out.y))
           go_ret
           exact ⟨by rw [hv.out]; rfl, HM5.out.b⟩
    · have hj1 : (j : Int) < (L : Int) := by omega
      have hjl1 : j < m.ln.length := by have := HL.out.1; omega
      have hjl2 : j < n.ln.length := by have := HL.out.2; omega
      obtain ⟨g1, off1, cp1, a1, k1, a2, k2, hv1, hP1, hg1, hc1⟩ := ln_at (HI.out.2.1.ln.under HM.out.b (Nat.le_refl _)) j hjl1
      obtain ⟨g2, off2, cp2, b1, r1, b2, r2, hv2, hP2, hg2, hc2⟩ := ln_at (HI.out.2.2.ln.under HM.out.b (Nat.le_refl _)) j hjl2
      simp only [Value.slice.injEq] at hv1 hv2
      obtain ⟨rfl, -, rfl⟩ := hv1
      obtain ⟨rfl, -, rfl⟩ := hv2
      have HP := hid (And.intro hP1 hP2)
      have HFa : Hid (lnSame (m.ln.getD j ln0) (n.ln.getD j ln0) = false → V = false) := hid (fun e => by rw [HV.out, allTo_no j (by omega) e]; rfl)
      have HTr : Hid (lnSame (m.ln.getD j ln0) (n.ln.getD j ln0) = true → allTo (lnsP m.ln n.ln) (j + 1) = true) := hid (fun e => by rw [allTo, HOk.out, lnsP, e]; rfl)
      have HBx := hid (And.intro (HI.out.1.1.ln.2 (m.ln.getD j ln0) (getD_in hjl1)) (HI.out.1.2.ln.2 (n.ln.getD j ln0) (getD_in hjl2)))
      have HJ := hid (And.intro hj hjn)
      have HG := hid (And.intro (And.intro hg1 hc1) (And.intro hg2 hc2))
      generalize m.ln.getD j ln0 = x at HP HFa HTr HBx HG
      generalize n.ln.getD j ln0 = y at HP HFa HTr HBx HG
      clear hj hjn hjl1 hjl2 hP1 hP2 hg1 hc1 hg2 hc2
      have m16 : ∀ cx : Cls wr, cx.1.cell? ⟨w.heap.size, 16, none⟩ = some (.slice (some ⟨g1, off1, none⟩) L c16) := fun cx => (cx.2.cell (p := ⟨w.heap.size, 16, none⟩) (lt_of_blk HM.out.x)).trans y16
      have e16 : ∀ cx : Cls wr, cx.1.cell? ⟨w.heap.size + 1, 16, none⟩ = some (.slice (some ⟨g2, off2, none⟩) L d16) := fun cx => (cx.2.cell (p := ⟨w.heap.size + 1, 16, none⟩) (lt_of_blk HM.out.y)).trans z16
      have f0 : ∀ cx : Cls wr, cx.1.cell? ⟨g1, off1 + j * 3, none⟩ = some (.int .i64 x.1.1) := fun cx => (cx.2.cell (p := ⟨g1, off1 + j * 3 + 0, none⟩) HG.out.1.1).trans (HG.out.1.2 0 _ rfl)
      have g3 : ∀ cx : Cls wr, cx.1.cell? ⟨g2, off2 + j * 3, none⟩ = some (.int .i64 y.1.1) := fun cx => (cx.2.cell (p := ⟨g2, off2 + j * 3 + 0, none⟩) HG.out.2.1).trans (HG.out.2.2 0 _ rfl)
      have f1 : ∀ cx : Cls wr, cx.1.cell? ⟨g1, off1 + j * 3 + 1, none⟩ = some (.slice a1 x.1.2.length k1) := fun cx => (cx.2.cell (p := ⟨g1, off1 + j * 3 + 1, none⟩) HG.out.1.1).trans (HG.out.1.2 1 _ rfl)
      have g4 : ∀ cx : Cls wr, cx.1.cell? ⟨g2, off2 + j * 3 + 1, none⟩ = some (.slice b1 y.1.2.length r1) := fun cx => (cx.2.cell (p := ⟨g2, off2 + j * 3 + 1, none⟩) HG.out.2.1).trans (HG.out.2.2 1 _ rfl)
      have f2 : ∀ cx : Cls wr, cx.1.cell? ⟨g1, off1 + j * 3 + 2, none⟩ = some (.slice a2 x.2.length k2) := fun cx => (cx.2.cell (p := ⟨g1, off1 + j * 3 + 2, none⟩) HG.out.1.1).trans (HG.out.1.2 2 _ rfl)
      have g5 : ∀ cx : Cls wr, cx.1.cell? ⟨g2, off2 + j * 3 + 2, none⟩ = some (.slice b2 y.2.length r2) := fun cx => (cx.2.cell (p := ⟨g2, off2 + j * 3 + 2, none⟩) HG.out.2.1).trans (HG.out.2.2 2 _ rfl)
      have HU1 := hid (show Tst wr 21 #[.agg #[.int .i64 x.1.1, .slice a1 x.1.2.length k1], .agg #[.int .i64 y.1.1, .slice b1 y.1.2.length r1]] (.bool (decide (x.1.1 = y.1.1) && decide (x.1.2 = y.1.2))) from fun u hu => vsame_dec _ _ a1 b1 _ _ k1 r1 x.1.2 y.1.2 rfl rfl HBx.out.1.1 HBx.out.2.1 u (HP.out.1.1.keep hu (Nat.le_refl _)) (HP.out.2.1.keep hu (Nat.le_refl _)))
      have HU2 := hid (show Tst wr 13 #[.slice a2 x.2.length k2, .slice b2 y.2.length r2] (.bool (decide (x.2 = y.2))) from fun u hu => wsame_dec a2 b2 _ _ k2 r2 x.2 y.2 rfl rfl HBx.out.1.2 HBx.out.2.2 u (HP.out.1.2.keep hu (Nat.le_refl _)) (HP.out.2.2.keep hu (Nat.le_refl _)))
      go_wp2_with fail
      clear y0 y1 y2 y3 y4 y5 y6 y7 y8 y9 y10 y11 y12 y13 y14 y15 y16 z0 z1 z2 z3 z4 z5 z6 z7 z8 z9 z10 z11 z12 z13 z14 z15 z16
      cases x1 : (decide (x.1.1 = y.1.1) && decide (x.1.2 = y.1.2)) with
      | false =>
        rw [x1] at HU1
        have HF := hid (HFa.out (by rw [lnSame, x1]; rfl))
        clear x1
        haveI := Cls.ne wr
        refine wp_region_cls wr (by kernel_rfl) (by kernel_rfl) ?_
        repeat (go_big_quiet_step ((first
          | (go_at_call 21; exact Cls.of _ (fun u hu => HU1.out u hu))
          | (go_at_call 13; exact Cls.of _ (fun u hu => HU2.out u hu)))))
        refine wpQuiet_nil ?_
        rintro _ ⟨cx, rfl⟩
        go_wp2
        go_ret
        exact ⟨by rw [HF.out]; rfl, (HM.out.b).trans (cx.2.mono HM.out.b.size)⟩
      | true =>
        rw [x1] at HU1
        cases x2 : decide (x.2 = y.2) with
        | false =>
          rw [x2] at HU2
          have HF := hid (HFa.out (by rw [lnSame, x1, x2]; rfl))
          clear x1 x2
          haveI := Cls.ne wr
          refine wp_region_cls wr (by kernel_rfl) (by kernel_rfl) ?_
          repeat (go_big_quiet_step ((first
            | (go_at_call 21; exact Cls.of _ (fun u hu => HU1.out u hu))
            | (go_at_call 13; exact Cls.of _ (fun u hu => HU2.out u hu)))))
          refine wpQuiet_nil ?_
          rintro _ ⟨cx, rfl⟩
          go_wp2
          go_ret
          exact ⟨by rw [HF.out]; rfl, (HM.out.b).trans (cx.2.mono HM.out.b.size)⟩
        | true =>
          rw [x2] at HU2
          have HT := hid (HTr.out (by rw [lnSame, x1, x2]; rfl))
          clear x1 x2
          haveI := Cls.ne wr
          refine wp_region_cls wr (by kernel_rfl) (by kernel_rfl) ?_
          repeat (go_big_quiet_step ((first
            | (go_at_call 21; exact Cls.of _ (fun u hu => HU1.out u hu))
            | (go_at_call 13; exact Cls.of _ (fun u hu => HU2.out u hu)))))
          refine wpQuiet_nil ?_
          rintro _ ⟨cx, rfl⟩
          go_wp2
          go_roundw
          case rel => exact ⟨j + 1, by have := HJ.out; omega, by go_num, HBW.out.trans (cx.2.mono HBW.out.size), HT.out⟩
          case measure => simp [intOf]; omega
theorem wsameMs_any {F G : Nat → Prop} (m n : Ms) (a13 a14 a15 a16 b13 b14 b15 b16 : Option Addr) (c13 c14 c15 c16 d13 d14 d15 d16 : Nat) (w : World) (hB : MsN m) (hC : MsN n) (hL : MsL F w m (.slice a13 m.nx.length c13) (.slice a14 m.sg.length c14) (.slice a15 m.cg.length c15) (.slice a16 m.ln.length c16)) (hR : MsL G w n (.slice b13 n.nx.length d13) (.slice b14 n.sg.length d14) (.slice b15 n.cg.length d15) (.slice b16 n.ln.length d16)) :
    Calls Try.prog 10 #[.agg (msA m a13 a14 a15 a16 c13 c14 c15 c16).toArray, .agg (msA n b13 b14 b15 b16 d13 d14 d15 d16).toArray] w fun e w' => e = .returned (.bool (sameMs m n)) ∧ Below w.heap.size w w' := by
  by_cases h0 : m.k = n.k
  rotate_left
  · exact wsm_0 m n a13 a14 a15 a16 b13 b14 b15 b16 c13 c14 c15 c16 d13 d14 d15 d16 w _ (by rw [sameMs, decide_eq_false h0] <;> rfl)  (beq_eq_false_iff_ne.2 h0)
  by_cases h1 : m.ep = n.ep
  rotate_left
  · exact wsm_1 m n a13 a14 a15 a16 b13 b14 b15 b16 c13 c14 c15 c16 d13 d14 d15 d16 w _ (by rw [sameMs, decide_eq_true h0, decide_eq_false h1] <;> rfl) (beq_iff_eq.2 h0) (beq_eq_false_iff_ne.2 h1)
  by_cases h2 : m.v = n.v
  rotate_left
  · exact wsm_2 m n a13 a14 a15 a16 b13 b14 b15 b16 c13 c14 c15 c16 d13 d14 d15 d16 w _ (by rw [sameMs, decide_eq_true h0, decide_eq_true h1, decide_eq_false h2] <;> rfl) (beq_iff_eq.2 h0) (beq_iff_eq.2 h1) (beq_eq_false_iff_ne.2 h2)
  by_cases h3 : m.sl = n.sl
  rotate_left
  · exact wsm_3 m n a13 a14 a15 a16 b13 b14 b15 b16 c13 c14 c15 c16 d13 d14 d15 d16 w _ (by rw [sameMs, decide_eq_true h0, decide_eq_true h1, decide_eq_true h2, decide_eq_false h3] <;> rfl) (beq_iff_eq.2 h0) (beq_iff_eq.2 h1) (beq_iff_eq.2 h2) (beq_eq_false_iff_ne.2 h3)
  by_cases h4 : m.tx = n.tx
  rotate_left
  · exact wsm_4 m n a13 a14 a15 a16 b13 b14 b15 b16 c13 c14 c15 c16 d13 d14 d15 d16 w _ (by rw [sameMs, decide_eq_true h0, decide_eq_true h1, decide_eq_true h2, decide_eq_true h3, decide_eq_false h4] <;> rfl) (beq_iff_eq.2 h0) (beq_iff_eq.2 h1) (beq_iff_eq.2 h2) (beq_iff_eq.2 h3) (text_neS h4)
  by_cases h5 : m.ln.length = n.ln.length
  rotate_left
  · exact wsm_5 m n a13 a14 a15 a16 b13 b14 b15 b16 c13 c14 c15 c16 d13 d14 d15 d16 w _ (by rw [sameMs, decide_eq_true h0, decide_eq_true h1, decide_eq_true h2, decide_eq_true h3, decide_eq_true h4, decide_eq_false h5] <;> rfl) (beq_iff_eq.2 h0) (beq_iff_eq.2 h1) (beq_iff_eq.2 h2) (beq_iff_eq.2 h3) (by rw [h4]; simp) (beq_eq_false_iff_ne.2 (by omega))
  exact wsm_tail m n a13 a14 a15 a16 b13 b14 b15 b16 c13 c14 c15 c16 d13 d14 d15 d16 w hB hC hL hR _ (by rw [sameMs, decide_eq_true h0, decide_eq_true h1, decide_eq_true h2, decide_eq_true h3, decide_eq_true h4, decide_eq_true h5] <;> rfl) (beq_iff_eq.2 h0) (beq_iff_eq.2 h1) (beq_iff_eq.2 h2) (beq_iff_eq.2 h3) (by rw [h4]; simp) (beq_iff_eq.2 (by omega))
end Go.Proofs.Ytfjcpghepkmbfaa
