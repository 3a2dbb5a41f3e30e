/- The contract of package pack's reader of texts. -/
import Derived.Test.YtpeagpeifmimlaaGreatPkR
import Derived.Laws.IdiomStrings
namespace Go.Proofs.YtpeagpeifmimlaaGreat
open Go.RowKit

theorem take_at (b : Nat) (s : ByteArray) (sh : Bool) (n : Nat) (z : Int) (hz : z = n) (w : World) (h : RdAt w b s sh) (hn : n ≤ s.size) :
    Calls Tryz.prog 89 #[.pointer (some ⟨b, 0, none⟩), .int .i64 z] w fun e w' => e = .returned (.string (s.extract 0 n)) ∧ w' = w.setCell ⟨b, 0, none⟩ (.string (s.extract n s.size)) := by
  subst hz
  exact take_any b s sh n w h hn

/-- A string's bytes as a slice, and back: the string. -/
theorem back_conv (w : World) (x : ByteArray) (cap : Nat) (fr : Nat × Nat) :
    (convert 128 9 (.slice (some ⟨w.heap.size, 0, none⟩) x.size cap)).run Tryz.prog (w.alloc (.cells (bytesRow x cap) 5 fr)).drew = .ok (.string x) (w.alloc (.cells (bytesRow x cap) 5 fr)).drew := by
  have h := run_convert_bytes_back (P := Tryz.prog) (w.alloc (.cells (bytesRow x cap) 5 fr)).drew 128 9 5 ⟨w.heap.size, 0, none⟩ cap x.data.toList Tryz.underlying128 Tryz.underlying5 Tryz.underlying9 (fun j hj => by
    show (w.alloc (.cells (bytesRow x cap) 5 fr)).cell? ((⟨w.heap.size, 0, none⟩ : Addr).add j) = _
    rw [Addr.add_lit, Nat.zero_add, World.cell?_alloc_mark, bytesRow_at x _ j (by simpa using hj)]
    simp)
  simpa using h

/-- Can a text be read next? -/
def tOK (s : ByteArray) (sh : Bool) : Bool := hasB s sh 2 && decide (2 + val (s.data.toList.take 2) ≤ s.size)
def tT (s : ByteArray) (sh : Bool) : ByteArray := if tOK s sh then s.extract 2 (2 + val (s.data.toList.take 2)) else ⟨#[]⟩
def tS (s : ByteArray) (sh : Bool) : ByteArray := if tOK s sh then s.extract (2 + val (s.data.toList.take 2)) s.size else s
def tB (s : ByteArray) (sh : Bool) : Bool := !tOK s sh

set_option maxHeartbeats 800000 in
theorem rtext_yes (b : Nat) (s : ByteArray) (w : World) (h : RdAt w b s false) (m : Nat) (hm : val (s.data.toList.take 2) = m) (h2 : 2 + m ≤ s.size) (hm2 : m ≤ 65535) :
    Calls Tryz.prog 41 #[.pointer (some ⟨b, 0, none⟩)] w fun e w' => e = .returned (.string (s.extract 2 (2 + m))) ∧ RdAt w' b (s.extract (2 + m) s.size) false ∧ Kept b none w w' := by
  have hb : hasB s false 2 = true := by simp [hasB]; omega
  have hb2 : hasB s false (2 + m) = true := by simp [hasB]; omega
  have hd : decide ((s.size : Int) < 2) = false := by simp; omega
  have hd2 : decide ((s.size : Int) < 2 + (m : Int)) = false := by simp; omega
  have hx : (s.extract 0 2).size ≤ 8 := by simp; omega
  have hx2 : val (s.extract 0 2).data.toList = m := by rw [extract_list]; simpa using hm
  have hv : ∀ w, Calls Tryz.prog 88 #[.string (s.extract 0 2)] w fun e w' => e = .returned (.int .u64 m) ∧ w' = w := fun w => by
    have := value_any (s.extract 0 2) w hx
    rw [hx2] at this
    exact this
  have HV : Hid (∀ w, Calls Tryz.prog 88 #[.string (s.extract 0 2)] w fun e w' => e = .returned (.int .u64 m) ∧ w' = w) := hv
  have hcv := fun (w : World) (x : ByteArray) => run_bytes_of_string (P := Tryz.prog) w 9 128 5 x Tryz.underlying9 Tryz.underlying128 Tryz.underlying5
  have hxe : (s.extract 0 (2 + m)).extract 2 (2 + m) = s.extract 2 (2 + m) := by
    apply ByteArray.ext
    apply Array.toList_inj.1
    rw [extract_list, extract_list, extract_list]
    simp [List.take_take]
  have hxs : (s.extract 2 (2 + m)).size = m := by simp; omega
  have hbk : ∀ (w : World) (cap : Nat) (fr : Nat × Nat), (convert 128 9 (.slice (some ⟨w.heap.size, 0, none⟩) m cap)).run Tryz.prog (w.alloc (.cells (bytesRow ((s.extract 0 (2 + m)).extract 2 (2 + m)) cap) 5 fr)).drew = .ok (.string (s.extract 2 (2 + m))) (w.alloc (.cells (bytesRow ((s.extract 0 (2 + m)).extract 2 (2 + m)) cap) 5 fr)).drew := fun w cap fr => by
    have := back_conv w (s.extract 2 (2 + m)) cap fr
    rw [hxs] at this
    rw [hxe]
    exact this
  clear hxe hxs
  clear hx hx2 hm hv
  go_enter Tryz.func41, Tryz.ntmps41
  go_wp2_with fail
  refine (has_any b s false 2 _ h).mono ?_
  rintro e w1 ⟨rfl, hr, hk⟩
  have hr1 : RdAt w1 b s false := by rw [hd] at hr; exact hr
  clear hr
  have c0 := hr1.c0
  go_wp2_with fail
  refine (HV.out _).mono ?_
  rintro e w2 ⟨rfl, rfl⟩
  go_wp2_with fail
  refine (has_any b s false (2 + m) _ hr1).mono ?_
  rintro e w2 ⟨rfl, hr, hk2⟩
  have hr2 : RdAt w2 b s false := by rw [hd2] at hr; exact hr
  clear hr hr1 c0
  go_wp2_with fail
  refine (take_at b s false (2 + m) _ (by omega) _ hr2 h2).mono ?_
  rintro e w3 ⟨rfl, hw3⟩
  have hr3 : RdAt w3 b (s.extract (2 + m) s.size) false := by rw [hw3]; exact hr2.rest _
  have hk3 : Kept b none w w3 := by rw [hw3]; exact (hk.trans hk2 (.inl rfl)).setCell _ _
  clear hw3
  go_wp2
  go_ret
  refine ⟨rfl, ?_, (hk3.alloc _).drew⟩
  show RdAt _ _ _ _
  unfold RdAt at hr3 ⊢
  exact (Below.heap_alloc _ _ _ (lt_of_blk hr3)).trans hr3

set_option maxHeartbeats 800000 in
theorem rtext_short (b : Nat) (s : ByteArray) (w : World) (h : RdAt w b s false) (m : Nat) (hm : val (s.data.toList.take 2) = m) (h0 : 2 ≤ s.size) (h2 : s.size < 2 + m) (hm2 : m ≤ 65535) :
    Calls Tryz.prog 41 #[.pointer (some ⟨b, 0, none⟩)] w fun e w' => e = .returned (.string ⟨#[]⟩) ∧ RdAt w' b s true ∧ Kept b none w w' := by
  have hb : hasB s false 2 = true := by simp [hasB]; omega
  have hb2 : hasB s false (2 + m) = false := by simp [hasB]; omega
  have hd : decide ((s.size : Int) < 2) = false := by simp; omega
  have hd2 : decide ((s.size : Int) < 2 + (m : Int)) = true := by simp; omega
  have hx : (s.extract 0 2).size ≤ 8 := by simp; omega
  have hx2 : val (s.extract 0 2).data.toList = m := by rw [extract_list]; simpa using hm
  have hv : ∀ w, Calls Tryz.prog 88 #[.string (s.extract 0 2)] w fun e w' => e = .returned (.int .u64 m) ∧ w' = w := fun w => by
    have := value_any (s.extract 0 2) w hx
    rw [hx2] at this
    exact this
  have HV : Hid (∀ w, Calls Tryz.prog 88 #[.string (s.extract 0 2)] w fun e w' => e = .returned (.int .u64 m) ∧ w' = w) := hv
  clear hx hx2 hm hv
  go_enter Tryz.func41, Tryz.ntmps41
  go_wp2_with fail
  refine (has_any b s false 2 _ h).mono ?_
  rintro e w1 ⟨rfl, hr, hk⟩
  have hr1 : RdAt w1 b s false := by rw [hd] at hr; exact hr
  clear hr
  have c0 := hr1.c0
  go_wp2_with fail
  refine (HV.out _).mono ?_
  rintro e w2 ⟨rfl, rfl⟩
  go_wp2_with fail
  refine (has_any b s false (2 + m) _ hr1).mono ?_
  rintro e w2 ⟨rfl, hr, hk2⟩
  have hr2 : RdAt w2 b s true := by rw [hd2] at hr; exact hr
  go_wp2
  go_ret
  exact ⟨rfl, hr2, hk.trans hk2 (.inl rfl)⟩

set_option maxHeartbeats 800000 in
theorem rtext_no (b : Nat) (s : ByteArray) (sh : Bool) (w : World) (h : RdAt w b s sh) (hn : hasB s sh 2 = false) :
    Calls Tryz.prog 41 #[.pointer (some ⟨b, 0, none⟩)] w fun e w' => e = .returned (.string ⟨#[]⟩) ∧ RdAt w' b s true ∧ Kept b none w w' := by
  have hd : (sh || decide ((s.size : Int) < 2)) = true := by simp [hasB] at hn ⊢; cases sh <;> simp at hn ⊢; omega
  have HD : Hid ((sh || decide ((s.size : Int) < 2)) = true) := hd
  clear hd
  go_enter Tryz.func41, Tryz.ntmps41
  go_wp2_with (first | (go_at_call 87; refine (has_any b s sh 2 _ h).mono ?_; rintro e w1 ⟨rfl, hr, hk⟩))
  go_ret
  exact ⟨rfl, by rw [HD.out] at hr; exact hr, hk⟩

theorem rtext_nil (w : World) : Calls Tryz.prog 41 #[.pointer none] w fun e w' => e = .returned (.string ⟨#[]⟩) ∧ w' = w := by
  go_enter Tryz.func41, Tryz.ntmps41
  go_wp2_with (go_at_call 87; refine (has_nil _ _).mono ?_; rintro e w1 ⟨rfl, rfl⟩)
  go_ret
  exact ⟨rfl, rfl⟩

theorem rtext_any (b : Nat) (s : ByteArray) (sh : Bool) (w : World) (h : RdAt w b s sh) :
    Calls Tryz.prog 41 #[.pointer (some ⟨b, 0, none⟩)] w fun e w' => e = .returned (.string (tT s sh)) ∧ RdAt w' b (tS s sh) (tB s sh) ∧ Kept b none w w' := by
  have hm2 : val (s.data.toList.take 2) ≤ 65535 := by
    have := val_lt (s.data.toList.take 2)
    have h3 : 256 ^ (s.data.toList.take 2).length ≤ 256 ^ 2 := Nat.pow_le_pow_right (by decide) (by simp; omega)
    have h4 : (256 : Nat) ^ 2 = 65536 := by decide
    omega
  unfold tT tS tB tOK
  cases hb : hasB s sh 2 with
  | false => simpa using rtext_no b s sh w h hb
  | true =>
    have h1 : sh = false := by cases sh <;> simp [hasB] at hb ⊢
    subst h1
    have h0 : 2 ≤ s.size := by simp [hasB] at hb; omega
    by_cases h2 : 2 + val (s.data.toList.take 2) ≤ s.size
    · simpa [h2] using rtext_yes b s w h _ rfl h2 hm2
    · simpa [h2] using rtext_short b s w h _ rfl h0 (by omega) hm2

end Go.Proofs.YtpeagpeifmimlaaGreat
