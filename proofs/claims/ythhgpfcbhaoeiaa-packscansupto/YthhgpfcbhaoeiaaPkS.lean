/- The contracts of package pack's scan: its letters, its next thing. -/
import Derived.Test.YthhgpfcbhaoeiaaPkT
import Derived.Lib.Bytealg
import Derived.Laws.Externs
namespace Go.Proofs.Ythhgpfcbhaoeiaa
open Go.RowKit

set_option maxHeartbeats 1000000 in
set_option maxRecDepth 100000 in
theorem lite_any (s : ByteArray) (c : Int) (w : World) :
    Calls Try.prog 54 #[.string s, .int .u8 c] w fun e w' => e = .returned (.int .i64 (Lib.indexByte s.data.toList c.toNat.toUInt8)) ∧ w' = w := by
  go_enter Try.func54, Try.ntmps54
  go_wp2
  rw [run_callFunc_extern Try.func55 (by kernel_rfl) (by kernel_rfl) (by kernel_rfl) (e := Extern.BytealgIndexByte.indexByte) (by kernel_rfl), Lib.run_indexByteString]
  simp only [Result.andThen]
  rw [Oper.upon_value]
  go_wp2
  go_ret
  exact ⟨rfl, rfl⟩

theorem index_any (s : ByteArray) (c : Int) (w : World) :
    Calls Try.prog 53 #[.string s, .int .u8 c] w fun e w' => e = .returned (.int .i64 (Lib.indexByte s.data.toList c.toNat.toUInt8)) ∧ w' = w := by
  go_enter Try.func53, Try.ntmps53
  go_wp2_with (go_at_call 54; refine (lite_any _ _ _).mono ?_; rintro e w' ⟨rfl, rfl⟩)
  go_ret
  exact ⟨rfl, rfl⟩

/-- Is it one of a shape's letters? -/
def ltr (c : UInt8) : Bool := c == 98 || c == 119 || c == 108 || c == 113 || c == 116
theorem ltr_yes (c : UInt8) (h : ltr c = true) : 0 ≤ Lib.indexByte [98, 119, 108, 113, 116] c := by
  simp [ltr] at h
  rcases h with (((h | h) | h) | h) | h <;> subst h <;> decide
theorem ltr_no (c : UInt8) (h : ltr c = false) : Lib.indexByte [98, 119, 108, 113, 116] c = -1 := by
  simp [ltr] at h
  simp [Lib.indexByte, Ne.symm h.1.1.1.1, Ne.symm h.1.1.1.2, Ne.symm h.1.1.2, Ne.symm h.1.2, Ne.symm h.2]
def okShape (l : List UInt8) : Bool := l.all ltr

/-- One letter looked up, by its place in the list of letters. -/
def ltrAt (c : UInt8) : Int := Lib.indexByte [98, 119, 108, 113, 116] c
theorem index_ltr (c : UInt8) (w : World) : Calls Try.prog 53 #[.string ⟨#[98, 119, 108, 113, 116]⟩, .int .u8 (c.toNat : Int)] w fun e w' => e = .returned (.int .i64 (ltrAt c)) ∧ w' = w := by
  have h := index_any ⟨#[98, 119, 108, 113, 116]⟩ (c.toNat : Int) w
  have e : ((c.toNat : Int).toNat).toUInt8 = c := by simp
  rw [e] at h
  exact h

set_option maxHeartbeats 800000 in
theorem shape_any (s : ByteArray) (w : World) (hs : s.size ≤ maxLen) :
    Calls Try.prog 41 #[.string s] w fun e w' => e = .returned (.bool (okShape s.data.toList)) ∧ w' = w := by
  unfold maxLen at hs
  go_enter Try.func41, Try.ntmps41
  go_wp2
  go_loop [6] (fun i => ∃ k : Nat, k ≤ s.size ∧ i = .int .i64 k ∧ okShape (s.data.toList.take k) = true) (fun i => s.size - (intOf i).toNat)
  case atStart => exact ⟨0, Nat.zero_le _, rfl, rfl⟩
  case round =>
    obtain ⟨k, hk, rfl, hok⟩ := hrel
    have HO := hid hok
    clear hok
    by_cases hlt : k < s.size
    · cases hc : ltr s[k] with
      | true =>
        have hp : ¬ ltrAt s[k] < 0 := by have := ltr_yes _ hc; unfold ltrAt; omega
        have HC := hid hc
        clear hc
        go_wp2_with (go_at_call 53; refine (index_ltr _ _).mono ?_; rintro e w' ⟨rfl, rfl⟩)
        go_round
        case rel => exact ⟨k + 1, by omega, by go_num, by rw [take_snoc s k hlt, okShape, List.all_append]; have := HO.out; unfold okShape at this; simp [this, HC.out]⟩
        case measure => simp [intOf]; omega
      | false =>
        have hp : ltrAt s[k] < 0 := by have := ltr_no _ hc; unfold ltrAt; omega
        have HC := hid hc
        clear hc
        go_wp2_with (go_at_call 53; refine (index_ltr _ _).mono ?_; rintro e w' ⟨rfl, rfl⟩)
        go_ret
        refine ⟨?_, rfl⟩
        have e : okShape s.data.toList = false := by
          unfold okShape
          rw [List.all_eq_false]
          exact ⟨s[k], by have : s[k] ∈ s.data.toList := by simp [ByteArray.getElem_eq_getElem_data]
                          exact this, by simp [HC.out]⟩
        rw [e]
        rfl
    · go_wp2
      go_ret
      have := HO.out
      rw [List.take_of_length_le (by simp; have : s.data.size = s.size := rfl; omega)] at this
      exact ⟨by rw [this]; rfl, rfl⟩

end Go.Proofs.Ythhgpfcbhaoeiaa
