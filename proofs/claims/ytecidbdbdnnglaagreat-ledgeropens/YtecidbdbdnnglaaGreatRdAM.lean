/- What was written is read: numbers, texts, the end. No walk here. -/
import Derived.Test.YtecidbdbdnnglaaGreatPk1
import Derived.Test.YtecidbdbdnnglaaGreatBaB
namespace Go.Proofs.YtecidbdbdnnglaaGreat
open Go.RowKit

/-- A number that is there is read. -/
theorem rd_good (s : ByteArray) (n k : Nat) (rest : List UInt8) (h : s.data.toList = be n k ++ rest) (hk : k < 256 ^ n) : rN s false n = k ∧ (rS s false n).data.toList = rest ∧ rB s false n = false := by
  have hl : n ≤ s.size := by rw [← data_len, h, List.length_append, be_len]; omega
  have hb : hasB s false n = true := by rw [hasB, decide_eq_true (by omega)]; rfl
  refine ⟨?_, ?_, by rw [rB, hb]; rfl⟩
  · rw [rN, hb, if_pos rfl, h, List.take_left' (be_len n k), val_be, Nat.mod_eq_of_lt hk]
  · rw [rS, hb, if_pos rfl, ext_data, List.take_of_length_le (by rw [data_len]; exact Nat.le_refl _), h, List.drop_left' (be_len n k)]
/-- What was read was there. -/
theorem rd_back (s : ByteArray) (sh : Bool) (n : Nat) (h : rB s sh n = false) : sh = false ∧ s.data.toList = be n (rN s sh n) ++ (rS s sh n).data.toList := by
  have hb : hasB s sh n = true := by
    rw [rB] at h
    cases e : hasB s sh n with
    | true => rfl
    | false => rw [e] at h; cases h
  have hb2 := hb
  rw [hasB, Bool.and_eq_true_iff] at hb2
  have hl : n ≤ s.size := by have := of_decide_eq_true hb2.2; omega
  refine ⟨by cases sh with | false => rfl | true => exact absurd hb2.1 (by decide), ?_⟩
  have ht : (s.data.toList.take n).length = n := by rw [List.length_take, data_len]; omega
  have hv := be_val (s.data.toList.take n)
  rw [ht] at hv
  rw [rN, hb, if_pos rfl, rS, hb, if_pos rfl, hv, ext_data, List.take_of_length_le (i := s.size) (by rw [data_len]; exact Nat.le_refl _), List.take_append_drop]
theorem end_ok {s : ByteArray} {sh : Bool} (h : endOf s sh = 0) : sh = false ∧ s.data.toList = [] := by
  unfold endOf at h
  split at h
  · cases h
  · next h1 =>
    split at h
    · cases h
    · next h2 => exact ⟨by simpa using h1, List.eq_nil_of_length_eq_zero (by rw [data_len]; omega)⟩
theorem end_of {s : ByteArray} (h : s.data.toList = []) : endOf s false = 0 := by
  have : s.size = 0 := by rw [← data_len, h]; rfl
  unfold endOf
  rw [if_neg (by decide), if_neg (by omega)]
/-- A text that is there is read. -/
theorem tx_good (s x : ByteArray) (rest : List UInt8) (h : s.data.toList = be 2 x.size ++ (x.data.toList ++ rest)) (hx : x.size ≤ 65535) : tT s false = x ∧ (tS s false).data.toList = rest ∧ tB s false = false := by
  have hl : s.size = 2 + (x.size + rest.length) := by rw [← data_len, h, List.length_append, be_len, List.length_append, data_len]
  have hv : val (s.data.toList.take 2) = x.size := by rw [h, List.take_left' (be_len 2 _), val_be, Nat.mod_eq_of_lt (by omega)]
  have hok : tOK s false = true := by
    rw [tOK, hv, hasB, decide_eq_true (by omega), decide_eq_true (by omega)]
    rfl
  have hd : s.data.toList.drop 2 = x.data.toList ++ rest := by rw [h, List.drop_left' (be_len 2 _)]
  refine ⟨?_, ?_, by rw [tB, hok]; rfl⟩
  · rw [tT, if_pos hok, hv]
    apply ByteArray.ext
    apply Array.ext'
    rw [ext_data, List.drop_take, hd, show 2 + x.size - 2 = x.size by omega, List.take_left' (data_len x)]
  · rw [tS, if_pos hok, hv, ext_data, List.take_of_length_le (by rw [data_len]; exact Nat.le_refl _), ← List.drop_drop, hd, List.drop_left' (data_len x)]
end Go.Proofs.YtecidbdbdnnglaaGreat
