/- The document's trees: powers, nodes, leaves, roots. -/
import Derived.Test.YtebhkifjommpjaaGrA
import Derived.Test.YtebhkifjommpjaaOtT
namespace Go.Proofs.Ytebhkifjommpjaa
open Go.RowKit

set_option maxRecDepth 100000 in
set_option maxHeartbeats 1600000 in
theorem hpower_le (h : Nat) (hh : h ≤ 5) (w : World) :
    Calls Try.prog 26 #[.int .i64 (h : Int)] w fun e w' => e = .returned (.int .i64 ((2 ^ h : Nat) : Int)) ∧ w' = w := by
  have hh2 : (h : Int) ≤ 5 := by omega
  obtain ⟨N, eN⟩ : ∃ N, N = 2 ^ h := ⟨_, rfl⟩
  rw [← eN]
  have HH := hid (And.intro hh eN)
  clear hh eN
  go_enter Try.func26, Try.ntmps26
  go_wp2
  go_loopw [3, 4] (fun v i wr => ∃ j : Nat, j ≤ h ∧ i = .int .i64 (j : Int) ∧ v = .int .i64 ((2 ^ j : Nat) : Int) ∧ wr = w)
    (fun _ i _ => ((h : Int) - intOf i).toNat)
  case atStart => exact ⟨0, by omega, rfl, rfl, rfl⟩
  case round =>
    obtain ⟨j, hj, rfl, rfl, rfl⟩ := hrel
    by_cases hjn : j = h
    · have hj1 : ¬ ((j : Int) < (h : Int)) := by omega
      rw [show 2 ^ j = N by rw [HH.out.2, hjn]]
      clear hj hjn
      go_wp2
      go_ret
      exact ⟨rfl, rfl⟩
    · have hj1 : (j : Int) < (h : Int) := by omega
      have hj0 : (0 : Int) ≤ (j : Int) := Int.natCast_nonneg _
      obtain ⟨p, ep⟩ : ∃ p, p = 2 ^ j := ⟨_, rfl⟩
      have hp : p ≤ 32 := by rw [ep]; exact pow_le5 j (by have := HH.out.1; omega)
      have hp1 : (p : Int) ≤ 32 := by omega
      have hp0 : (0 : Int) ≤ (p : Int) := Int.natCast_nonneg _
      rw [← ep]
      have HP : Hid (2 ^ (j + 1) = p * 2) := hid (by rw [Nat.pow_succ, ep])
      have HJ := hid (And.intro hj hjn)
      clear ep hj hjn hp
      go_wp2
      go_roundw
      case rel => exact ⟨j + 1, by have := HJ.out; omega, by go_num, by rw [HP.out]; go_num, by first | exact rfl | exact trivial⟩
      case measure => simp [intOf]; omega

theorem nodeS_zero (L : List ByteArray) (first : Nat) : nodeS L first 0 = L.getD first ⟨#[]⟩ := rfl
theorem nodeS_succ (L : List ByteArray) (first h : Nat) : nodeS L first (h + 1) = shaS (nodeS L first h ++ nodeS L (first + 2 ^ h) h) := rfl
set_option maxRecDepth 100000 in
set_option maxHeartbeats 1600000 in
theorem hnode_le (a : Option Addr) (n cap : Nat) (L : List ByteArray) (hn : L.length = n) (hmax : n ≤ 1000) (hL : ∀ (j : Nat) (s : ByteArray), L[j]? = some s → s.size = 32) :
    ∀ (h first : Nat), h ≤ 5 → first + 2 ^ h ≤ n → ∀ w : World, StrsIn w a L →
      Calls Try.prog 25 #[.slice a n cap, .int .i64 (first : Int), .int .i64 (h : Int)] w fun e w' => e = .returned (.string (nodeS L first h)) ∧ Below w.heap.size w w' := by
  intro h
  induction h with
  | zero =>
    intro first _ hf w hS
    have hf1 : first < n := by simp at hf; omega
    obtain ⟨s, es⟩ : ∃ s, L[first]? = some s := ⟨_, List.getElem?_eq_getElem (by omega)⟩
    obtain ⟨g, off, rfl, hg, hc⟩ := hS.at first s es
    rw [nodeS_zero, List.getD_eq_getElem?_getD, es]
    have hf2 : (first : Int) < (n : Int) := by omega
    have hf0 : (0 : Int) ≤ (first : Int) := Int.natCast_nonneg _
    clear hf hf1 es hg hL hS
    go_enter Try.func25, Try.ntmps25
    go_wp2
    go_ret
    exact ⟨rfl, Below.refl _ _⟩
  | succ h ih =>
    intro first hh hf w hS
    obtain ⟨p, ep⟩ : ∃ p, p = 2 ^ h := ⟨_, rfl⟩
    have hp : p ≤ 32 := by rw [ep]; exact pow_le5 h (by omega)
    have hf2 : first + 2 * p ≤ n := by rw [Nat.pow_succ, ← ep] at hf; omega
    obtain ⟨X, eX⟩ : ∃ X, X = nodeS L first h := ⟨_, rfl⟩
    obtain ⟨Y, eY⟩ : ∃ Y, Y = nodeS L (first + p) h := ⟨_, rfl⟩
    obtain ⟨T, eT⟩ : ∃ T, T = shaS (X ++ Y) := ⟨_, rfl⟩
    rw [nodeS_succ, ← ep, ← eX, ← eY, ← eT]
    have hX : X.size = 32 := by rw [eX]; exact nodeS_size L hL h first (by rw [hn, ← ep]; omega)
    have hY : Y.size = 32 := by rw [eY]; exact nodeS_size L hL h (first + p) (by rw [hn, ← ep]; omega)
    have HP : Hid (∀ u : World, Calls Try.prog 26 #[.int .i64 (h : Int)] u fun e w' => e = .returned (.int .i64 (p : Int)) ∧ w' = u) := hid (fun u => by rw [ep]; exact hpower_le h (by omega) u)
    have HX : Hid (∀ u : World, StrsIn u a L → Calls Try.prog 25 #[.slice a n cap, .int .i64 (first : Int), .int .i64 (h : Int)] u fun e w' => e = .returned (.string X) ∧ Below u.heap.size u w') := hid (fun u hu => by rw [eX]; exact ih first (by omega) (by rw [← ep]; omega) u hu)
    have HY : Hid (∀ u : World, StrsIn u a L → Calls Try.prog 25 #[.slice a n cap, .int .i64 ((first : Int) + (p : Int)), .int .i64 (h : Int)] u fun e w' => e = .returned (.string Y) ∧ Below u.heap.size u w') := hid (fun u hu => by rw [eY]; exact ih (first + p) (by omega) (by rw [← ep]; omega) u hu)
    have HT : Hid (∀ u : World, Calls Try.prog 36 #[.string (X ++ Y)] u fun e w' => e = .returned (.string T) ∧ Below u.heap.size u w') := hid (fun u => by rw [eT]; exact qsum_s (X ++ Y) (by rw [ByteArray.size_append]; omega) u)
    have HS := hid hS
    have hX2 : (X.size : Int) = 32 := by omega
    have hY2 : (Y.size : Int) = 32 := by omega
    have hh0 : (0 : Int) ≤ (h : Int) := Int.natCast_nonneg _
    have hh1 : (h : Int) ≤ 4 := by omega
    have hz : ¬ ((h : Int) + 1 = 0) := by omega
    have he : (((h + 1 : Nat) : Int)) = (h : Int) + 1 := by omega
    have hp1 : (p : Int) ≤ 32 := by omega
    have hp0 : (0 : Int) ≤ (p : Int) := Int.natCast_nonneg _
    have hf0 : (0 : Int) ≤ (first : Int) := Int.natCast_nonneg _
    have hf1 : (first : Int) ≤ 1000 := by omega
    rw [he]
    clear he ep eX eY eT hX hY hp hf hf2 ih hS hh hL
    go_enter Try.func25, Try.ntmps25
    go_wp2_with (first
      | (go_at_call 26; refine (HP.out _).mono ?_; rintro e wx ⟨rfl, rfl⟩)
      | (go_at_call 25; have := H1; refine (HY.out _ (by exact HS.out.keep H1.out (Nat.le_refl _))).mono ?_; rintro e w2 ⟨rfl, hb2⟩; have H2 := hid (H1.out.trans (hb2.mono H1.out.size)); clear hb2)
      | (go_at_call 25; refine (HX.out _ (by exact HS.out)).mono ?_; rintro e w1 ⟨rfl, hb1⟩; have H1 := hid hb1; clear hb1)
      | (go_at_call 36; refine (HT.out _).mono ?_; rintro e w3 ⟨rfl, hb3⟩; have H3 := hid (H2.out.trans (hb3.mono H2.out.size)); clear hb3))
    go_ret
    exact ⟨rfl, H3.out⟩
def rightB (h : Int) : Bool := decide (0 ≤ h ∧ h ≤ 5)
def rightE (h : Int) : Int := if rightB h then 0 else 1
theorem rightE_yes {h : Int} (h0 : 0 ≤ h) (h5 : h ≤ 5) : rightE h = 0 := by unfold rightE rightB; rw [decide_eq_true ⟨h0, h5⟩]; rfl
theorem rightE_no {h : Int} (hn : ¬ (0 ≤ h ∧ h ≤ 5)) : rightE h = 1 := by unfold rightE rightB; rw [decide_eq_false hn]; rfl
theorem hright_any (h : Int) (w : World) : Calls Try.prog 13 #[.int .i64 h] w fun e w' => e = .returned (.int .i64 (rightE h)) ∧ w' = w := by
  by_cases h0 : h < 0
  · rw [rightE_no (fun k => by omega)]
    go_enter Try.func13, Try.ntmps13
    go_wp2
    go_ret
    exact ⟨rfl, rfl⟩
  by_cases h5 : 5 < h
  · rw [rightE_no (fun k => by omega)]
    go_enter Try.func13, Try.ntmps13
    go_wp2
    go_ret
    exact ⟨rfl, rfl⟩
  · rw [rightE_yes (by omega) (by omega)]
    go_enter Try.func13, Try.ntmps13
    go_wp2
    go_ret
    exact ⟨rfl, rfl⟩
theorem hroot_le (a : Option Addr) (cap : Nat) (seed : ByteArray) (h : Nat) (hh : h ≤ 5) (n : Nat) (hn : n = 2 ^ h) (w : World) (hS : StrsIn w a (leafL seed h)) :
    Calls Try.prog 14 #[.slice a n cap, .int .i64 (h : Int)] w fun e w' => e = .returned (.string (rootS seed h)) ∧ Below w.heap.size w w' := by
  have h32 := pow_le5 h hh
  have HN : Hid (Calls Try.prog 25 #[.slice a n cap, .int .i64 0, .int .i64 (h : Int)] w fun e w' => e = .returned (.string (rootS seed h)) ∧ Below w.heap.size w w') := hid (hnode_le a n cap (leafL seed h) (by rw [leafL_len, hn]) (by omega) (leafL_size seed h) h 0 hh (by omega) w hS)
  clear hS h32 hn hh
  go_enter Try.func14, Try.ntmps14
  go_wp2_with (go_at_call 25; refine HN.out.mono ?_; rintro e w1 ⟨rfl, hb1⟩; have H1 := hid hb1; clear hb1)
  go_ret
  exact ⟨rfl, H1.out⟩
end Go.Proofs.Ytebhkifjommpjaa
