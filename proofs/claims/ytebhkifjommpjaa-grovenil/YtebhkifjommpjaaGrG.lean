/- The program's paths, and the way up. -/
import Derived.Test.YtebhkifjommpjaaGrF
import Derived.Test.YtebhkifjommpjaaGrD
namespace Go.Proofs.Ytebhkifjommpjaa
open Go.RowKit

set_option maxRecDepth 100000 in
set_option maxHeartbeats 1600000 in
theorem gpath_le (seed : ByteArray) (hs : seed.size ≤ 1000000) (h leaf : Nat) (hh : h ≤ 5) (hl : leaf < 2 ^ h) (w : World) :
    Calls Try.prog 30 #[.string seed, .int .i64 (h : Int), .int .i64 (leaf : Int)] w fun e w' => e = .returned (.string ⟨(pathB (leafL seed h) leaf h).toArray⟩) ∧ Below w.heap.size w w' := by
  have h32 := pow_le5 h hh
  obtain ⟨P, eP⟩ : ∃ P, P = pathB (leafL seed h) leaf := ⟨_, rfl⟩
  rw [← eP]
  have HP : Hid (P 0 = [] ∧ (∀ k, k < h → P (k + 1) = P k ++ (nodeP seed k (besideN (leaf / 2 ^ k))).data.toList) ∧ ∀ k, k ≤ h → (P k).length = 32 * k) :=
    hid ⟨by rw [eP]; rfl, fun k hk => by rw [eP, pathB_succ, nodeP_beside seed h leaf k hl hk], fun k hk => by rw [eP]; exact path_len _ (leafL_size seed h) leaf h (leafL_len seed h) hl k hk⟩
  have HN : Hid (∀ k, k < h → ∀ u : World, Calls Try.prog 24 #[.string seed, .int .i64 (k : Int), .int .i64 ((besideN (leaf / 2 ^ k) : Nat) : Int)] u fun e w' => e = .returned (.string (nodeP seed k (besideN (leaf / 2 ^ k)))) ∧ Below u.heap.size u w') :=
    hid (fun k hk u => gnode_le seed hs k _ (by omega) (by have := beside_lt leaf h k hl hk; rw [Nat.succ_mul]; omega) u)
  have HH := hid (And.intro hh (And.intro hl h32))
  have hh1 : (h : Int) ≤ 5 := by omega
  clear eP hs hh hl h32
  go_enter Try.func30, Try.ntmps30
  go_wp2
  go_loopw [8, 12] (fun q i wr => ∃ k : Nat, k ≤ h ∧ i = .int .i64 (k : Int) ∧ q = .int .i64 ((leaf / 2 ^ k : Nat) : Int) ∧ Bld w.heap.size w wr w.heap.size (P k))
    (fun _ i _ => ((h : Int) - intOf i).toNat)
  case atStart => exact ⟨0, by omega, rfl, by rw [Nat.pow_zero, Nat.div_one], by rw [HP.out.1]; exact Bld.new w _ rfl⟩
  case round =>
    obtain ⟨k, hk, rfl, rfl, hR⟩ := hrel
    have HR := hid hR
    clear hR
    by_cases hkn : k = h
    · have hk1 : ¬ ((k : Int) < (h : Int)) := by omega
      subst hkn
      clear hk
      go_wp2_with (go_at_call 48; refine (bstring_any _ _ _ _ _ (by exact HR.out)).mono ?_; rintro e w1 ⟨rfl, hb1⟩; have H1 := hid hb1; clear hb1)
      go_ret
      exact ⟨rfl, H1.out⟩
    · have hk1 : (k : Int) < (h : Int) := by omega
      have hk0 : (0 : Int) ≤ (k : Int) := Int.natCast_nonneg _
      have hkh : k < h := by omega
      have HNk := hid (HN.out k hkh)
      have hE := HP.out.2.1 k hkh
      have hlen := HP.out.2.2 k hk
      have hhalf := half_pow leaf k
      have hq : leaf / 2 ^ k ≤ leaf := Nat.div_le_self _ _
      generalize leaf / 2 ^ k = q at HNk hE hhalf hq ⊢
      obtain ⟨X, eX⟩ : ∃ X, X = nodeP seed k (besideN q) := ⟨_, rfl⟩
      have hX : X.size = 32 := by rw [eX, nodeP_size]
      rw [← eX] at HNk hE
      have HB : Hid (∀ u : World, Calls Try.prog 47 #[.int .i64 (q : Int)] u fun e w' => e = .returned (.int .i64 ((besideN q : Nat) : Int)) ∧ w' = u) := hid (fun u => beside_any q (by have := HH.out; omega) u)
      obtain ⟨m, em⟩ : ∃ m, m = besideN q := ⟨_, rfl⟩
      rw [← em] at HNk HB
      have hq1 : (q : Int) ≤ 31 := by have := HH.out; omega
      have hq0 : (0 : Int) ≤ (q : Int) := Int.natCast_nonneg _
      have HL : Hid ((P k).length + X.size ≤ 140737488355328) := hid (by rw [hlen, hX]; have := HH.out; omega)
      have HE := hid hE
      have HJ := hid (And.intro hk (And.intro hkn hhalf))
      clear hk hkn hE hlen hhalf hq eX hX em hkh
      go_wp2_with (first
        | (go_at_call 47; refine (HB.out _).mono ?_; rintro e wx ⟨rfl, rfl⟩)
        | (go_at_call 24; refine (HNk.out _).mono ?_; rintro e w2 ⟨rfl, hb2⟩; have H2 := hid (HR.out.keep hb2); clear hb2)
        | (go_at_call 46; refine (bwrite_any _ _ _ _ _ _ (by exact H2.out) (by exact HL.out)).mono ?_; rintro e w3 ⟨⟨n3, rfl⟩, hb3⟩; have H3 := hid hb3; clear hb3))
      go_roundw
      case rel => exact ⟨k + 1, by have := HJ.out; omega, by go_num, by rw [HJ.out.2.2]; go_num, by rw [HE.out]; exact H3.out⟩
      case measure => simp [intOf]; omega

/-- What is left of the path. -/
def restS (sig : ByteArray) (k : Nat) : ByteArray := sig.extract (561 + 32 * k) sig.size
theorem rest_size (sig : ByteArray) (k h : Nat) (hs : sig.size = 561 + 32 * h) (hk : k ≤ h) : (restS sig k).size = 32 * (h - k) := by
  rw [restS, ← data_len, ext_data, List.length_drop, List.length_take, data_len, hs]
  omega
theorem rest_side (sig : ByteArray) (k : Nat) : (restS sig k).extract 0 32 = sideS sig k := by
  apply ByteArray.ext
  apply Array.ext'
  rw [ext_data, restS, ext_data, sideS, ext_data, List.take_of_length_le (i := sig.size) (by rw [data_len]; exact Nat.le_refl _), List.drop_zero, List.drop_take]
  congr 1
  omega
theorem rest_rest (sig : ByteArray) (k : Nat) : (restS sig k).extract 32 (restS sig k).size = restS sig (k + 1) := by
  apply ByteArray.ext
  apply Array.ext'
  rw [ext_data, List.take_of_length_le (i := (restS sig k).size) (by rw [data_len]; exact Nat.le_refl _), restS, ext_data, restS, ext_data, List.take_of_length_le (i := sig.size) (by rw [data_len]; exact Nat.le_refl _), List.drop_drop]
  congr 1
theorem rest_none (sig : ByteArray) (h : Nat) (hs : sig.size = 561 + 32 * h) : restS sig h = ⟨#[]⟩ := by
  apply ByteArray.ext
  apply Array.ext'
  apply List.eq_nil_of_length_eq_zero
  rw [data_len, rest_size sig h h hs (Nat.le_refl _), Nat.sub_self]

theorem not_none (P : ByteArray) (h : 0 < P.size) : P.toList.isEmpty = false := by
  rw [ByteArray.toList_eq]
  cases e : P.data.toList with
  | nil => rw [← data_len, e] at h; simp at h
  | cons x l => rfl
set_option maxRecDepth 100000 in
set_option maxHeartbeats 1600000 in
theorem climbed_le (N : ByteArray) (hN : N.size ≤ 32) (hd : Nat) (hd5 : hd < 256) (sig : ByteArray) (h : Nat) (hs : sig.size = 561 + 32 * h) (hh : h ≤ 5) (w : World) :
    Calls Try.prog 34 #[.string N, .int .i64 (hd : Int), .string (restS sig 0)] w fun e w' => e = .returned (.string (upS sig hd N h)) ∧ Below w.heap.size w w' := by
  have HK := hid (And.intro hs (And.intro hh (And.intro hN hd5)))
  clear hs hh hN hd5
  go_enter Try.func34, Try.ntmps34
  go_wp2
  go_loopw [2, 7, 8] (fun p v q wr => ∃ j : Nat, j ≤ h ∧ p = .string (restS sig j) ∧ v = .string (upS sig hd N j) ∧ q = .int .i64 ((hd / 2 ^ j : Nat) : Int) ∧ Below w.heap.size w wr)
    (fun p _ _ _ => match p with | .string s => s.size | _ => 0)
  case atStart => exact ⟨0, by omega, rfl, rfl, by rw [Nat.pow_zero, Nat.div_one], Below.refl _ _⟩
  case round =>
    obtain ⟨j, hj, rfl, rfl, rfl, hbel⟩ := hrel
    have HB := hid hbel
    clear hbel
    by_cases hjn : j = h
    · subst hjn
      rw [rest_none sig j HK.out.1]
      generalize hd / 2 ^ j = q
      obtain ⟨X, eX⟩ : ∃ X, X = upS sig hd N j := ⟨_, rfl⟩
      rw [← eX]
      have HX := hid eX
      clear hj eX
      go_wp2
      go_ret
      exact ⟨by rw [← HX.out]; rfl, HB.out⟩
    · have hjh : j < h := by omega
      have hev := upS_even sig hd N j
      have hod := upS_odd sig hd N j
      have hhalf := half_pow hd j
      have hqle : hd / 2 ^ j ≤ hd := Nat.div_le_self _ _
      have hXs : (upS sig hd N j).size ≤ 32 := upS_size sig hd N HK.out.2.2.1 j
      have hSs : (sideS sig j).size = 32 := side_size sig j h HK.out.1 hjh
      have hPs := rest_size sig j h HK.out.1 hj
      have hP1 := rest_side sig j
      have hP2 := rest_rest sig j
      have hRs := rest_size sig (j + 1) h HK.out.1 hjh
      obtain ⟨q, eq⟩ : ∃ q, q = hd / 2 ^ j := ⟨_, rfl⟩
      rw [← eq] at hev hod hhalf hqle ⊢
      obtain ⟨X, eX⟩ : ∃ X, X = upS sig hd N j := ⟨_, rfl⟩
      rw [← eX] at hev hod hXs ⊢
      obtain ⟨S, eS⟩ : ∃ S, S = sideS sig j := ⟨_, rfl⟩
      rw [← eS] at hev hod hSs hP1
      obtain ⟨R, eR⟩ : ∃ R, R = restS sig (j + 1) := ⟨_, rfl⟩
      rw [← eR] at hP2 hRs
      obtain ⟨P, eP⟩ : ∃ P, P = restS sig j := ⟨_, rfl⟩
      rw [← eP] at hPs hP1 hP2 ⊢
      have hq1 : (q : Int) < 256 := by have := HK.out; omega
      have hq0 : (0 : Int) ≤ (q : Int) := Int.natCast_nonneg _
      have hP3 : (32 : Int) ≤ (P.size : Int) := by omega
      have hne := not_none P (by omega)
      have HJ := hid (And.intro hj (And.intro hjn (And.intro hhalf (And.intro hPs (And.intro hRs eR)))))
      clear hqle hhalf eq eX eS eR eP hj hjn hPs hRs hjh
      by_cases hpar : q % 2 = 0
      · have HV := hid (show evB q = true from decide_eq_true hpar)
        obtain ⟨T, eT⟩ : ∃ T, T = upS sig hd N (j + 1) := ⟨_, rfl⟩
        have HT : Hid (∀ (u : World) (g : Nat), g = u.heap.size → Calls Try.prog 41 #[.slice (some ⟨g, 0, none⟩) 2 2] (u.alloc (.cells #[.string X, .string S] 9)) fun e w' => e = .returned (.string T) ∧ Below u.heap.size u w') := hid (fun u g hg => by rw [eT, hev hpar]; exact sum_cat X S (by omega) (by omega) u g hg)
        have HU := hid eT
        clear hev hod hpar eT hSs hXs
        go_wp2_with (first
          | (go_at_call 52; refine (isLeft_at _ _ (by exact HV.out) _).mono ?_; rintro e wx ⟨rfl, rfl⟩)
          | (go_at_call 41; refine (HT.out _ _ (by simp)).mono ?_; rintro e w2 ⟨rfl, hb2⟩; have H2 := hid (HB.out.trans (hb2.mono HB.out.size)); clear hb2))
        go_roundw
        case rel => exact ⟨j + 1, by have := HJ.out; omega, by rw [HJ.out.2.2.2.2.2], by rw [HU.out], by rw [HJ.out.2.2.1]; go_num, H2.out⟩
        case measure => show R.size < P.size; have := HJ.out; omega
      · have HV := hid (show evB q = false from decide_eq_false hpar)
        obtain ⟨T, eT⟩ : ∃ T, T = upS sig hd N (j + 1) := ⟨_, rfl⟩
        have HT : Hid (∀ (u : World) (g : Nat), g = u.heap.size → Calls Try.prog 41 #[.slice (some ⟨g, 0, none⟩) 2 2] (u.alloc (.cells #[.string S, .string X] 9)) fun e w' => e = .returned (.string T) ∧ Below u.heap.size u w') := hid (fun u g hg => by rw [eT, hod hpar]; exact sum_cat S X (by omega) (by omega) u g hg)
        have HU := hid eT
        clear hev hod hpar eT hSs hXs
        go_wp2_with (first
          | (go_at_call 52; refine (isLeft_at _ _ (by exact HV.out) _).mono ?_; rintro e wx ⟨rfl, rfl⟩)
          | (go_at_call 41; refine (HT.out _ _ (by simp)).mono ?_; rintro e w2 ⟨rfl, hb2⟩; have H2 := hid (HB.out.trans (hb2.mono HB.out.size)); clear hb2))
        go_roundw
        case rel => exact ⟨j + 1, by have := HJ.out; omega, by rw [HJ.out.2.2.2.2.2], by rw [HU.out], by rw [HJ.out.2.2.1]; go_num, H2.out⟩
        case measure => show R.size < P.size; have := HJ.out; omega
end Go.Proofs.Ytebhkifjommpjaa
