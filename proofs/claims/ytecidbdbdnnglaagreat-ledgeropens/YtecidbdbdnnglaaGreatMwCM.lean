/- The contracts of the document's writer: numbers, bits, texts, items. -/
import Derived.Test.YtecidbdbdnnglaaGreatMwBM
import Derived.Test.YtecidbdbdnnglaaGreatPkBM
namespace Go.Proofs.YtecidbdbdnnglaaGreat
open Go.RowKit

theorem mput_len (c : Nat) (v : Value) (lim : Int) (l : List UInt8) (er : Int) (g cm : Nat) (xs : List UInt8) (m : Nat) (hm : xs.length = m) (w : World) (h : MwAt w c v lim l er)
    (h0 : 0 ≤ lim) (h1 : lim ≤ 9223372036854775807) (hl : l.length + m ≤ 140737488355328)
    (hsrc : ∀ j u, (bC xs)[j]? = some u → w.cell? ⟨g, j, none⟩ = some u) :
    Calls Tryz.prog 113 #[.pointer (some ⟨c, 0, none⟩), .slice (some ⟨g, 0, none⟩) m cm, .bool true] w fun e w' => e = .returned (.tuple #[]) ∧
      ∃ v', MwAt w' c v' lim (if adm lim l.length er true m = 0 then l ++ xs else l) (adm lim l.length er true m) ∧ Kept c v.ownBlock w w' ∧ Moved w v v' := by
  subst hm
  exact mput_any c v lim l er g cm xs w h h0 h1 hl hsrc

theorem cells_of_row {w : World} {g : Nat} {xs : List UInt8} (h : w.heap[g]? = some (.cells (bC xs).toArray 5 (0, 0))) : ∀ j u, (bC xs)[j]? = some u → w.cell? ⟨g, j, none⟩ = some u := by
  intro j u hj
  have hjl := (List.getElem?_eq_some_iff.1 hj).1
  rw [cell_of_blk h j (by simpa using hjl)]
  rw [← hj]
  simp [hjl]


set_option maxRecDepth 100000 in
set_option maxHeartbeats 1600000 in
theorem mbits_w (c : Nat) (v : Value) (lim : Int) (l : List UInt8) (er : Int) (n : Nat) (w : World) (h : MwAt w c v lim l er)
    (h0 : 0 ≤ lim) (h1 : lim ≤ 9223372036854775807) (hl : l.length + 8 ≤ 140737488355328) (hn : n < 18446744073709551616) :
    Calls Tryz.prog 76 #[.pointer (some ⟨c, 0, none⟩), .int .u64 n] w fun e w' => e = .returned (.tuple #[]) ∧ ∃ v', MwAt w' c v' lim (bL lim l er n) (bE lim l er) ∧ Kept c v.ownBlock w w' ∧ Moved w v v' := by
  have HH := hid h
  have HC := hid (big_any n 8 w (by omega) hn)
  clear h hn
  go_enter Tryz.func76, Tryz.ntmps76
  go_wp2_with fail
  refine HC.out.mono ?_
  rintro e w1 ⟨rfl, hb1, hbel⟩
  have HP := hid (mput_len c v lim l er w.heap.size 8 (be 8 n) 8 (be_len 8 n) w1 (HH.out.above hbel) h0 h1 hl (cells_of_row hb1))
  have HK := hid (show Kept c v.ownBlock w w1 from ⟨hbel.os, hbel.tape, hbel.output, hbel.size, fun k hk _ _ => hbel.block k hk⟩)
  clear hb1 hbel
  go_wp2_with fail
  refine HP.out.mono ?_
  rintro e w2 ⟨rfl, v2, hx2, hk2, hm2⟩
  have H2 := hid (And.intro hx2 (And.intro (HK.out.trans hk2 (.inl rfl)) ((Moved.refl w v).trans hm2 HK.out.size)))
  clear hx2 hk2 hm2
  go_wp2
  go_end0
  exact ⟨rfl, v2, H2.out⟩

set_option maxRecDepth 100000 in
set_option maxHeartbeats 1600000 in
theorem mnum_in (c : Nat) (v : Value) (lim : Int) (l : List UInt8) (er : Int) (n s : Nat) (hs : s ≤ 4) (w : World) (h : MwAt w c v lim l er)
    (h0 : 0 ≤ lim) (h1 : lim ≤ 9223372036854775807) (hl : l.length + 8 ≤ 140737488355328) (hn : n < 256 ^ s) :
    Calls Tryz.prog 73 #[.pointer (some ⟨c, 0, none⟩), .int .i64 n, .int .i64 s] w fun e w' => e = .returned (.tuple #[]) ∧ ∃ v', MwAt w' c v' lim (wL lim l er s n) (wE lim l er s n) ∧ Kept c v.ownBlock w w' ∧ Moved w v v' := by
  have hp : 256 ^ s ≤ 4294967296 := Nat.le_trans (Nat.pow_le_pow_right (by decide) hs) (by decide)
  have HH := hid h
  have HC := hid (big_any n s w (by omega) (by omega))
  have hr : inR s (n : Int) = true := by unfold inR; rw [decide_eq_true_iff]; exact ⟨Int.natCast_nonneg _, by exact_mod_cast hn⟩
  have HQ : Hid (∀ E L, (if adm lim l.length er true s = 0 then l ++ be s n else l) = L → adm lim l.length er true s = E → wL lim l er s n = L ∧ wE lim l er s n = E) := by
    intro E L e1 e2
    unfold wL wE
    rw [hr, Int.toNat_natCast]
    exact ⟨e1, e2⟩
  obtain ⟨L, hL⟩ : ∃ L, wL lim l er s n = L := ⟨_, rfl⟩
  obtain ⟨E, hE⟩ : ∃ E, wE lim l er s n = E := ⟨_, rfl⟩
  rw [hL, hE]
  have HLE := hid (And.intro hL hE)
  obtain ⟨q, hq⟩ : ∃ q, q = 256 ^ s := ⟨_, rfl⟩
  rw [← hq] at hn hp
  have HPQ := hid hq
  have hn0 : (0 : Int) ≤ (n : Int) := Int.natCast_nonneg _
  have hnq : (n : Int) < (q : Int) := by omega
  clear h hr hn hL hE hq
  go_enter Tryz.func73, Tryz.ntmps73
  go_wp2
  go_loop [6, 7] (fun p i => ∃ k : Nat, k ≤ s ∧ i = .int .i64 k ∧ p = .int .i64 ((256 ^ k : Nat) : Int)) (fun _ i => s - (intOf i).toNat)
  case atStart => exact ⟨0, Nat.zero_le _, rfl, rfl⟩
  case round =>
    obtain ⟨k, hk, rfl, rfl⟩ := hrel
    by_cases hlt : k < s
    · have hb : 256 ^ k ≤ 16777216 := Nat.le_trans (Nat.pow_le_pow_right (by decide) (show k ≤ 3 by omega)) (by decide)
      obtain ⟨p, hp2⟩ : ∃ p, p = 256 ^ k := ⟨_, rfl⟩
      rw [← hp2] at hb ⊢
      have HP2 := hid hp2
      clear hp2
      go_wp2
      go_round
      case rel => exact ⟨k + 1, by omega, by go_num, by rw [Nat.pow_succ, ← HP2.out]; simp⟩
      case measure => simp [intOf]; omega
    · have hks : k = s := by omega
      subst hks
      rw [← HPQ.out]
      clear hlt
      go_wp2_with fail
      refine HC.out.mono ?_
      rintro e w1 ⟨rfl, hb1, hbel⟩
      have HP := hid (mput_len c v lim l er w.heap.size k (be k n) k (be_len k n) w1 (HH.out.above hbel) h0 h1 (by omega) (cells_of_row hb1))
      have HK := hid (show Kept c v.ownBlock w w1 from ⟨hbel.os, hbel.tape, hbel.output, hbel.size, fun j hj _ _ => hbel.block j hj⟩)
      clear hb1 hbel
      go_wp2_with fail
      refine HP.out.mono ?_
      rintro e w2 ⟨rfl, v2, hx2, hk2, hm2⟩
      have hQ := HQ.out _ _ rfl rfl
      rw [← hQ.1, ← hQ.2, HLE.out.1, HLE.out.2] at hx2
      have H2 := hid (And.intro hx2 (And.intro (HK.out.trans hk2 (.inl rfl)) ((Moved.refl w v).trans hm2 HK.out.size)))
      clear hx2 hk2 hm2 hQ
      go_wp2
      go_end0
      exact ⟨rfl, v2, H2.out⟩

set_option maxRecDepth 100000 in
set_option maxHeartbeats 1600000 in
theorem mnum_out (c : Nat) (v : Value) (lim : Int) (l : List UInt8) (er : Int) (n : Int) (s : Nat) (hs : s ≤ 4) (w : World) (h : MwAt w c v lim l er) (hn : n < 0 ∨ ((256 ^ s : Nat) : Int) ≤ n) (E : Int) (hE : adm lim l.length er false s = E) :
    Calls Tryz.prog 73 #[.pointer (some ⟨c, 0, none⟩), .int .i64 n, .int .i64 s] w fun e w' => e = .returned (.tuple #[]) ∧ ∃ v', MwAt w' c v' lim l E ∧ Kept c v.ownBlock w w' ∧ Moved w v v' := by
  have hp : 256 ^ s ≤ 4294967296 := Nat.le_trans (Nat.pow_le_pow_right (by decide) hs) (by decide)
  have HC := hid (mput_bad c v lim l er s w h)
  rw [hE] at HC
  obtain ⟨q, hq⟩ : ∃ q, q = 256 ^ s := ⟨_, rfl⟩
  rw [← hq] at hn hp
  have HPQ := hid hq
  clear h hE hq
  rcases hn with hn | hn
  all_goals
    go_enter Tryz.func73, Tryz.ntmps73
    go_wp2
    go_loop [6, 7] (fun p i => ∃ k : Nat, k ≤ s ∧ i = .int .i64 k ∧ p = .int .i64 ((256 ^ k : Nat) : Int)) (fun _ i => s - (intOf i).toNat)
    case atStart => exact ⟨0, Nat.zero_le _, rfl, rfl⟩
    case round =>
      obtain ⟨k, hk, rfl, rfl⟩ := hrel
      by_cases hlt : k < s
      · have hb : 256 ^ k ≤ 16777216 := Nat.le_trans (Nat.pow_le_pow_right (by decide) (show k ≤ 3 by omega)) (by decide)
        obtain ⟨p, hp2⟩ : ∃ p, p = 256 ^ k := ⟨_, rfl⟩
        rw [← hp2] at hb ⊢
        have HP2 := hid hp2
        clear hp2
        go_wp2
        go_round
        case rel => exact ⟨k + 1, by omega, by go_num, by rw [Nat.pow_succ, ← HP2.out]; simp⟩
        case measure => simp [intOf]; omega
      · have hks : k = s := by omega
        subst hks
        rw [← HPQ.out]
        clear hlt
        go_wp2_with fail
        refine HC.out.mono ?_
        rintro e w1 ⟨rfl, hx1, hk1⟩
        have H1 := hid (And.intro hx1 (kept_none (r := v.ownBlock) hk1))
        clear hx1 hk1
        go_wp2
        first | go_end0 | refine bodyPost_ret (results_none rfl _ _ _) rfl ?_
        exact ⟨rfl, v, H1.out.1, H1.out.2, Moved.refl _ _⟩

theorem mnum_w (c : Nat) (v : Value) (lim : Int) (l : List UInt8) (er : Int) (n : Int) (s : Nat) (hs : s ≤ 4) (w : World) (h : MwAt w c v lim l er)
    (h0 : 0 ≤ lim) (h1 : lim ≤ 9223372036854775807) (hl : l.length + 8 ≤ 140737488355328) :
    Calls Tryz.prog 73 #[.pointer (some ⟨c, 0, none⟩), .int .i64 n, .int .i64 s] w fun e w' => e = .returned (.tuple #[]) ∧ ∃ v', MwAt w' c v' lim (wL lim l er s n) (wE lim l er s n) ∧ Kept c v.ownBlock w w' ∧ Moved w v v' := by
  by_cases hn : 0 ≤ n ∧ n < ((256 ^ s : Nat) : Int)
  · obtain ⟨m, rfl⟩ : ∃ m : Nat, n = m := ⟨n.toNat, by omega⟩
    exact mnum_in c v lim l er m s hs w h h0 h1 hl (by exact_mod_cast hn.2)
  · have hr : inR s n = false := by unfold inR; rw [decide_eq_false_iff_not]; exact hn
    have hd : ¬ adm lim l.length er false s = 0 := by unfold adm; split <;> simp_all
    have := mnum_out c v lim l er n s hs w h (by omega) _ rfl
    unfold wL wE
    rw [hr, if_neg hd]
    exact this

end Go.Proofs.YtecidbdbdnnglaaGreat
