/- Pad, Part; the digest of abc. -/
import Derived.Test.YticenbdbeehhnaaShK
namespace Go.Proofs.Yticenbdbeehhnaa
open Go.RowKit

theorem ext_take (l : List UInt8) (n : Nat) : (⟨l.toArray⟩ : ByteArray).extract 0 n = ⟨(l.take n).toArray⟩ := by
  apply ByteArray.ext
  rw [ByteArray.data_extract]
  simp

set_option maxRecDepth 100000 in
theorem spad_no (n : Int) (h0 : -9223372036854775808 ≤ n) (h1 : n ≤ 9223372036854775807) (h : n < 0 ∨ 4294967296 < n) (w : World) :
    Calls Try.prog 12 #[.int .i64 n] w fun e w' => e = .returned (.tuple #[.string ⟨#[]⟩, .bool false]) ∧ w' = w := by
  by_cases hn : n < 0
  · clear h h0 h1
    go_enter Try.func12, Try.ntmps12
    go_wp2
    go_ret2
    exact ⟨rfl, rfl⟩
  · have hg : 4294967296 < n := by omega
    have hw : IntKind.u64.wrap n = n := by
      simp [IntKind.wrap, IntKind.bits, IntKind.signed]
      omega
    clear h h0 h1
    go_enter Try.func12, Try.ntmps12
    go_wp2
    go_ret2
    exact ⟨rfl, rfl⟩
set_option maxRecDepth 100000 in
theorem spad_ok (n : Nat) (h : n ≤ 4294967296) (w : World) :
    Calls Try.prog 12 #[.int .i64 (n : Int)] w fun e w' => e = .returned (.tuple #[.string ⟨(padB n).toArray⟩, .bool true]) ∧ Below w.heap.size w w' := by
  have hn : ¬ ((n : Int) < 0) := by omega
  have hg : ¬ ((4294967296 : Int) < (n : Int)) := by omega
  have HN := hid h
  clear h
  go_enter Try.func12, Try.ntmps12
  go_wp2_with (go_at_call 17; refine (padding_any _ (by have := HN.out; omega) _).mono ?_; rintro e w3 ⟨rfl, hb3⟩)
  go_ret2
  exact ⟨rfl, hb3⟩

theorem spart_no (n : Int) (h : n < 0 ∨ 32 < n) (v : Value) (w : World) :
    Calls Try.prog 14 #[.int .i64 n, v] w fun e w' => e = .returned (.tuple #[.string ⟨#[]⟩, .int .i64 1]) ∧ w' = w := by
  by_cases hn : n < 0
  · clear h
    go_enter Try.func14, Try.ntmps14
    go_wp2
    go_ret2
    exact ⟨rfl, rfl⟩
  · have hg : 32 < n := by omega
    clear h
    go_enter Try.func14, Try.ntmps14
    go_wp2
    go_ret2
    exact ⟨rfl, rfl⟩
theorem spart_ok (n : Nat) (hn : n ≤ 32) (g cap : Nat) (ss : List ByteArray) (w : World) (hg : g < w.heap.size) (hc : ∀ j s, ss[j]? = some s → w.cell? ⟨g, j, none⟩ = some (.string s)) (hsz : (joinB ss).length < 1152921504606840000) (hcap : ss.length ≤ 9223372036854775807) :
    Calls Try.prog 14 #[.int .i64 (n : Int), .slice (some ⟨g, 0, none⟩) ss.length cap] w fun e w' => e = .returned (.tuple #[.string ⟨((shaB (joinB ss)).take n).toArray⟩, .int .i64 0]) ∧ Below w.heap.size w w' := by
  have HC := hid (And.intro hg (And.intro hc (And.intro hsz hcap)))
  have hn0 : ¬ ((n : Int) < 0) := by omega
  have hn1 : ¬ ((32 : Int) < (n : Int)) := by omega
  obtain ⟨T, eT⟩ : ∃ T, T = shaB (joinB ss) := ⟨_, rfl⟩
  have hT : T.length = 32 := by rw [eT]; exact shaB_len _
  have hs : (⟨T.toArray⟩ : ByteArray).size = 32 := by show T.toArray.size = 32; simp [hT]
  have hs2 : (n : Int) ≤ 32 := by omega
  have HT := hid eT
  clear hg hc hsz hcap hn eT hT
  go_enter Try.func14, Try.ntmps14
  go_wp2_with (go_at_call 9; refine (ssum_any _ _ _ _ (by exact HC.out.1) (by exact HC.out.2.1) (by exact HC.out.2.2.1) (by exact HC.out.2.2.2)).mono ?_; rintro e w3 ⟨rfl, hb3⟩; rw [← HT.out])
  go_ret2
  exact ⟨by rw [ext_take, HT.out]; rfl, hb3⟩
theorem two_cells (w : World) (s t : ByteArray) (j : Nat) (x : ByteArray) (h : [s, t][j]? = some x) : (w.alloc (.cells #[.string s, .string t] 9)).cell? ⟨w.heap.size, j, none⟩ = some (.string x) := by
  refine cell_at (L := [.string s, .string t]) (t := 9) (fr := (0, 0)) (heap_alloc_last w _) j _ ?_
  have : j < 2 := (List.getElem?_eq_some_iff.1 h).1
  obtain rfl | rfl : j = 0 ∨ j = 1 := by omega
  · simpa using h
  · simpa using h

theorem slives_any (w : World) : Calls Try.prog 8 #[] w fun e w' => e = .returned (.bool true) ∧ Below w.heap.size w w' := by
  have hp : ∀ u : World, Calls Try.prog 14 #[.int .i64 4, .slice (some ⟨u.heap.size, 0, none⟩) 2 2] (u.alloc (.cells #[.string ⟨#[97]⟩, .string ⟨#[98, 99]⟩] 9)) fun e w' => e = .returned (.tuple #[.string ⟨#[186, 120, 22, 191]⟩, .int .i64 0]) ∧ Below (u.heap.size + 1) (u.alloc (.cells #[.string ⟨#[97]⟩, .string ⟨#[98, 99]⟩] 9)) w' := fun u => by
    have := spart_ok 4 (by decide) u.heap.size 2 [⟨#[97]⟩, ⟨#[98, 99]⟩] (u.alloc (.cells #[.string ⟨#[97]⟩, .string ⟨#[98, 99]⟩] 9)) (by simp) (two_cells u _ _) (by decide) (by decide)
    refine this.mono ?_
    rintro e w' ⟨rfl, hb⟩
    have ej : joinB [⟨#[97]⟩, ⟨#[98, 99]⟩] = [97, 98, 99] := rfl
    rw [ej, sha_abc]
    refine ⟨rfl, ?_⟩
    have e1 : (u.alloc (.cells #[.string ⟨#[97]⟩, .string ⟨#[98, 99]⟩] 9)).heap.size = u.heap.size + 1 := by simp
    rw [e1] at hb
    exact hb
  have HP := hid hp
  clear hp
  go_enter Try.func8, Try.ntmps8
  go_wp2_with (go_at_call 14; refine (HP.out _).mono ?_; rintro e w3 ⟨rfl, hb3⟩; have H3 := hid hb3; clear hb3)
  go_ret
  exact ⟨rfl, ((Below.refl _ _).alloc (Nat.le_refl _) _).trans (H3.out.mono (Nat.le_succ _))⟩

end Go.Proofs.Yticenbdbeehhnaa
