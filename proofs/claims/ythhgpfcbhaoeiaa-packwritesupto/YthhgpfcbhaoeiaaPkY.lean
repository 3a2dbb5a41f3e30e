/- What is read to the end of a text is written as just this text: the plain side. -/
import Derived.Test.YthhgpfcbhaoeiaaPkB
import Derived.Test.YthhgpfcbhaoeiaaPkT
namespace Go.Proofs.Ythhgpfcbhaoeiaa

/-- A text, what is left of it, what was written of it. -/
def Inv (t s : ByteArray) (sh : Bool) (l : List UInt8) (er : Int) : Prop :=
  l.length ≤ t.size ∧ s.size ≤ t.size ∧ (sh = false → er = 0 ∧ l ++ s.data.toList = t.data.toList)

theorem data_len (s : ByteArray) : s.data.toList.length = s.size := by rw [Array.length_toList]; rfl

theorem adm_room {lim : Int} {n : Nat} {er : Int} {r : Bool} {size : Int} (h : adm lim n er r size = 0) : size ≤ lim - n := by
  unfold adm at h
  split at h
  · split at h
    · split at h
      · simp at h
      · omega
    · simp at h
  · contradiction

theorem wL_le (lim : Nat) (l : List UInt8) (er : Int) (s : Nat) (n : Int) (hl : l.length ≤ lim) : (wL lim l er s n).length ≤ lim := by
  unfold wL
  split
  · rename_i h
    have := adm_room h
    rw [List.length_append, be_len]
    omega
  · exact hl
theorem bL_le (lim : Nat) (l : List UInt8) (er : Int) (n : Nat) (hl : l.length ≤ lim) : (bL lim l er n).length ≤ lim := by
  unfold bL
  split
  · rename_i h
    have := adm_room h
    rw [List.length_append, be_len]
    omega
  · exact hl
theorem xL_le (lim : Nat) (l : List UInt8) (er : Int) (s : ByteArray) (hl : l.length ≤ lim) : (xL lim l er s).length ≤ lim := by
  unfold xL
  split
  · rename_i h
    have := adm_room h
    rw [List.length_append, List.length_append, be_len, data_len]
    omega
  · exact hl

theorem take_len (s : ByteArray) (n : Nat) (h : n ≤ s.size) : (s.data.toList.take n).length = n := by rw [List.length_take, data_len]; omega

theorem inv_left {t s : ByteArray} {l : List UInt8} (h : l ++ s.data.toList = t.data.toList) : l.length + s.size = t.size := by
  have := congrArg List.length h
  rw [List.length_append, data_len, data_len] at this
  exact this

/-- The bytes of what was read. -/
theorem be_take (s : ByteArray) (n : Nat) (h : n ≤ s.size) : be n (val (s.data.toList.take n)) = s.data.toList.take n := by
  have := be_val (s.data.toList.take n)
  rwa [take_len s n h] at this

theorem extract_rest (s : ByteArray) (n : Nat) : (s.extract n s.size).data.toList = s.data.toList.drop n := by
  rw [extract_list, List.take_of_length_le (by rw [data_len]; exact Nat.le_refl _)]

theorem inv_num (t s : ByteArray) (sh : Bool) (l : List UInt8) (er : Int) (n : Nat) (h : Inv t s sh l er) :
    Inv t (rS s sh n) (rB s sh n) (wL t.size l er n (rN s sh n)) (wE t.size l er n (rN s sh n)) := by
  obtain ⟨h1, h2, h3⟩ := h
  refine ⟨wL_le _ _ _ _ _ h1, ?_, fun hb => ?_⟩
  · unfold rS
    split
    · simp; omega
    · exact h2
  · have hh : hasB s sh n = true := by simpa [rB] using hb
    have hsh : sh = false := by cases sh <;> simp [hasB] at hh ⊢
    have hn : n ≤ s.size := by simp [hasB] at hh; omega
    obtain ⟨rfl, h4⟩ := h3 hsh
    have h5 := inv_left h4
    have e1 : rN s sh n = val (s.data.toList.take n) := by simp [rN, hh]
    have e2 : rS s sh n = s.extract n s.size := by simp [rS, hh]
    have hlt := val_lt (s.data.toList.take n)
    rw [take_len s n hn] at hlt
    have hr : inR n (rN s sh n : Int) = true := by
      rw [e1]
      unfold inR
      rw [decide_eq_true_iff]
      exact ⟨Int.natCast_nonneg _, by exact_mod_cast hlt⟩
    have ha : adm t.size l.length 0 true n = 0 := adm_ok _ _ _ (by omega)
    refine ⟨by rw [wE, hr, ha], ?_⟩
    rw [wL, hr, if_pos ha, e2, e1, Int.toNat_natCast, be_take s n hn, extract_rest, List.append_assoc, List.take_append_drop]
    exact h4

theorem inv_bits (t s : ByteArray) (sh : Bool) (l : List UInt8) (er : Int) (h : Inv t s sh l er) :
    Inv t (rS s sh 8) (rB s sh 8) (bL t.size l er (rN s sh 8)) (bE t.size l er) := by
  obtain ⟨h1, h2, h3⟩ := h
  refine ⟨bL_le _ _ _ _ h1, ?_, fun hb => ?_⟩
  · unfold rS
    split
    · simp; omega
    · exact h2
  · have hh : hasB s sh 8 = true := by simpa [rB] using hb
    have hsh : sh = false := by cases sh <;> simp [hasB] at hh ⊢
    have hn : 8 ≤ s.size := by simp [hasB] at hh; omega
    obtain ⟨rfl, h4⟩ := h3 hsh
    have h5 := inv_left h4
    have e1 : rN s sh 8 = val (s.data.toList.take 8) := by simp [rN, hh]
    have e2 : rS s sh 8 = s.extract 8 s.size := by simp [rS, hh]
    have ha : bE t.size l 0 = 0 := adm_ok _ _ _ (by omega)
    refine ⟨ha, ?_⟩
    rw [bL, if_pos ha, e2, e1, be_take s 8 hn, extract_rest, List.append_assoc, List.take_append_drop]
    exact h4

theorem tT_le (s : ByteArray) (sh : Bool) : (tT s sh).size ≤ s.size := by
  unfold tT
  split
  · simp; omega
  · exact Nat.zero_le _

theorem inv_text (t s : ByteArray) (sh : Bool) (l : List UInt8) (er : Int) (h : Inv t s sh l er) :
    Inv t (tS s sh) (tB s sh) (xL t.size l er (tT s sh)) (xE t.size l er (tT s sh)) := by
  obtain ⟨h1, h2, h3⟩ := h
  refine ⟨xL_le _ _ _ _ h1, ?_, fun hb => ?_⟩
  · unfold tS
    split
    · simp; omega
    · exact h2
  · have hh : tOK s sh = true := by simpa [tB] using hb
    have hh2 := hh
    simp [tOK] at hh2
    obtain ⟨ha2, hle⟩ := hh2
    have hsh : sh = false := by cases sh <;> simp [hasB] at ha2 ⊢
    have hn : 2 ≤ s.size := by omega
    obtain ⟨rfl, h4⟩ := h3 hsh
    have h5 := inv_left h4
    have hlt := val_lt (s.data.toList.take 2)
    rw [take_len s 2 hn] at hlt
    have e1 : tT s sh = s.extract 2 (2 + val (s.data.toList.take 2)) := by simp [tT, hh]
    have e2 : tS s sh = s.extract (2 + val (s.data.toList.take 2)) s.size := by simp [tS, hh]
    have ez : (tT s sh).size = val (s.data.toList.take 2) := by rw [e1]; simp; omega
    have hz : decide ((tT s sh).size ≤ 65535) = true := by
      rw [ez, decide_eq_true_iff]
      have : (256 : Nat) ^ 2 = 65536 := by decide
      omega
    have ha : xE t.size l 0 (tT s sh) = 0 := by
      unfold xE
      rw [hz]
      exact adm_ok _ _ _ (by rw [ez]; omega)
    refine ⟨ha, ?_⟩
    rw [xL, if_pos ha, ez, be_take s 2 hn, e1, e2, extract_rest, extract_list]
    have h6 : s.data.toList.take 2 ++ (s.data.toList.take (2 + val (s.data.toList.take 2))).drop 2 = s.data.toList.take (2 + val (s.data.toList.take 2)) := by
      have := List.take_append_drop 2 (s.data.toList.take (2 + val (s.data.toList.take 2)))
      rwa [List.take_take, Nat.min_eq_left (by omega)] at this
    rw [h6, List.append_assoc, List.take_append_drop]
    exact h4

end Go.Proofs.Ythhgpfcbhaoeiaa
