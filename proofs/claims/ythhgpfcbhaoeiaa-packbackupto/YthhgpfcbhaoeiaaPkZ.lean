/- Whatever is written without an error is read again: the plain side. -/
import Derived.Test.YthhgpfcbhaoeiaaPkV
import Derived.Test.YthhgpfcbhaoeiaaPkY
import Derived.Test.YthhgpfcbhaoeiaaPkJ
namespace Go.Proofs.Ythhgpfcbhaoeiaa
open Go.RowKit

/-- An item as bytes. -/
def It.enc (i : It) : List UInt8 := if i.kd = 0 then be 1 i.n.toNat else if i.kd = 1 then be 2 i.n.toNat else if i.kd = 2 then be 4 i.n.toNat else if i.kd = 3 then be 8 i.q else be 2 i.s.size ++ i.s.data.toList
/-- It can be written. -/
def It.ok (i : It) : Prop := (i.kd = 0 ∧ 0 ≤ i.n ∧ i.n < 256) ∨ (i.kd = 1 ∧ 0 ≤ i.n ∧ i.n < 65536) ∨ (i.kd = 2 ∧ 0 ≤ i.n ∧ i.n < 4294967296) ∨ i.kd = 3 ∨ (i.kd = 4 ∧ i.s.size ≤ 65535)

theorem adm_zero {lim : Int} {n : Nat} {er : Int} {r : Bool} {size : Int} (h : adm lim n er r size = 0) : er = 0 ∧ r = true := by
  unfold adm at h
  split at h
  · split at h
    · exact ⟨by assumption, by assumption⟩
    · simp at h
  · contradiction

theorem w_zero {lim : Int} {l : List UInt8} {er : Int} {s : Nat} {n : Int} (h : wE lim l er s n = 0) : er = 0 ∧ (0 ≤ n ∧ n < ((256 ^ s : Nat) : Int)) ∧ wL lim l er s n = l ++ be s n.toNat := by
  unfold wE at h
  obtain ⟨h1, h2⟩ := adm_zero h
  exact ⟨h1, by simpa [inR] using h2, by rw [wL, if_pos h]⟩

theorem i_zero {lim : Int} {l : List UInt8} {er : Int} {i : It} (h : iE lim l er i = 0) : er = 0 ∧ i.ok ∧ iL lim l er i = l ++ i.enc := by
  unfold iE at h
  unfold It.ok It.enc iL
  rcases i.kd_bd with hk | hk | hk | hk | hk <;> simp [hk] at h ⊢
  · obtain ⟨a, b, c⟩ := w_zero h
    exact ⟨a, ⟨b.1, by omega⟩, c⟩
  · obtain ⟨a, b, c⟩ := w_zero h
    exact ⟨a, ⟨b.1, by omega⟩, c⟩
  · obtain ⟨a, b, c⟩ := w_zero h
    exact ⟨a, ⟨b.1, by omega⟩, c⟩
  · exact ⟨(adm_zero h).1, by rw [bL, if_pos h]⟩
  · have := (adm_zero h).2
    exact ⟨(adm_zero h).1, by simpa using this, by rw [xL, if_pos h]⟩

theorem iE_keeps {lim : Int} {l : List UInt8} {er : Int} {i : It} (h : er ≠ 0) : iE lim l er i ≠ 0 := fun e => h (i_zero e).1

/-- Written without an error: all bytes, item by item. -/
theorem wst_zero (lim : Int) (its : List It) : ∀ p : List UInt8 × Int, (wst lim its p).2 = 0 → p.2 = 0 ∧ (∀ i ∈ its, i.ok) ∧ (wst lim its p).1 = p.1 ++ its.flatMap It.enc := by
  induction its with
  | nil => intro p h; exact ⟨h, by simp, by simp [wst]⟩
  | cons j r ih =>
    intro p h
    rw [wst] at h ⊢
    obtain ⟨h1, h2, h3⟩ := ih _ h
    obtain ⟨a, b, c⟩ := i_zero h1
    refine ⟨a, ?_, ?_⟩
    · intro i hi
      rcases List.mem_cons.1 hi with rfl | hi
      · exact b
      · exact h2 i hi
    · rw [h3, c, List.flatMap_cons, List.append_assoc]

theorem size_of {s : ByteArray} {l : List UInt8} (h : s.data.toList = l) : s.size = l.length := by rw [← h, data_len]

/-- A number's bytes stand next: they are read. -/
theorem rd_num (s : ByteArray) (n : Nat) (m : Nat) (rest : List UInt8) (h : s.data.toList = be n m ++ rest) (hm : m < 256 ^ n) :
    rN s false n = m ∧ (rS s false n).data.toList = rest ∧ rB s false n = false := by
  have hz : n ≤ s.size := by rw [size_of h, List.length_append, be_len]; omega
  have hb : hasB s false n = true := by simp [hasB]; omega
  have ht : s.data.toList.take n = be n m := by rw [h, List.take_left' (be_len n m)]
  refine ⟨?_, ?_, by simp [rB, hb]⟩
  · rw [rN, if_pos hb, ht, val_be, Nat.mod_eq_of_lt hm]
  · rw [rS, if_pos hb, extract_rest, h, List.drop_left' (be_len n m)]

theorem rd_text (s : ByteArray) (x : ByteArray) (rest : List UInt8) (h : s.data.toList = be 2 x.size ++ x.data.toList ++ rest) (hx : x.size ≤ 65535) :
    tT s false = x ∧ (tS s false).data.toList = rest ∧ tB s false = false := by
  have hz : s.size = 2 + x.size + rest.length := by rw [size_of h, List.length_append, List.length_append, be_len, data_len]
  have hv : val (s.data.toList.take 2) = x.size := by
    rw [h, List.append_assoc, List.take_left' (be_len 2 x.size), val_be, Nat.mod_eq_of_lt (by have : (256 : Nat) ^ 2 = 65536 := by decide
                                                                                              omega)]
  have ho : tOK s false = true := by simp [tOK, hasB, hv]; omega
  refine ⟨?_, ?_, by simp [tB, ho]⟩
  · rw [tT, if_pos ho, hv]
    apply ByteArray.ext
    apply Array.toList_inj.1
    rw [extract_list, h, List.take_left' (by rw [List.length_append, be_len, data_len]), List.drop_left' (be_len 2 x.size)]
  · rw [tS, if_pos ho, hv, extract_rest, h, List.drop_left' (by rw [List.length_append, be_len, data_len])]

end Go.Proofs.Ythhgpfcbhaoeiaa
