/- What the statements' 'same' makes of one item: both readers read the same, and stand alike behind it. -/
import Derived.Test.YthhgpfcbhaoeiaaPkI
namespace Go.Proofs.Ythhgpfcbhaoeiaa
open Go.RowKit

theorem MrAt.alloc {w : World} {b : Nat} {s : ByteArray} {sh : Bool} (h : MrAt w b s sh) (o : Obj) : MrAt (w.alloc o) b s sh := (Below.heap_alloc w o b (lt_of_blk h)).trans h
theorem MrAt.kept {w w' : World} {b c : Nat} {s : ByteArray} {sh : Bool} (h : MrAt w c s sh) (hk : Kept b none w w') (hne : c ≠ b) : MrAt w' c s sh := (hk.block c (lt_of_blk h) hne (by simp)).trans h
theorem RdAt.kept {w w' : World} {b c : Nat} {s : ByteArray} {sh : Bool} (h : RdAt w b s sh) (hk : Kept c none w w') (hne : b ≠ c) : RdAt w' b s sh := (hk.block b (lt_of_blk h) hne (by simp)).trans h
theorem Kept.swap {b c : Nat} {w w' : World} (h : Kept c none w w') : Kept b (some c) w w' := ⟨h.os, h.tape, h.output, h.size, fun k hk _ hc => h.block k hk (fun e => hc (by rw [e])) (by simp)⟩

/-- What is left behind an item; whether it fell short. -/
def itS (k : Int) (s : ByteArray) (sh : Bool) : ByteArray := if k = 0 then rS s sh 1 else if k = 1 then rS s sh 2 else if k = 2 then rS s sh 4 else if k = 3 then rS s sh 8 else tS s sh
def itB (k : Int) (s : ByteArray) (sh : Bool) : Bool := if k = 0 then rB s sh 1 else if k = 1 then rB s sh 2 else if k = 2 then rB s sh 4 else if k = 3 then rB s sh 8 else tB s sh
theorem rS_le (s : ByteArray) (sh : Bool) (n : Nat) : (rS s sh n).size ≤ s.size := by
  unfold rS
  split
  · simp
  · exact Nat.le_refl _
theorem tS_le (s : ByteArray) (sh : Bool) : (tS s sh).size ≤ s.size := by
  unfold tS
  split
  · simp
  · exact Nat.le_refl _
theorem itS_le (k : Int) (s : ByteArray) (sh : Bool) : (itS k s sh).size ≤ s.size := by
  unfold itS
  repeat (first | exact rS_le _ _ _ | exact tS_le _ _ | split)

set_option maxRecDepth 100000 in
set_option maxHeartbeats 1600000 in
theorem same0 (b c : Nat) (s : ByteArray) (sh : Bool) (i : It) (w : World) (h : RdAt w b s sh) (g : MrAt w c s sh) (hbc : b ≠ c) (hz : s.size ≤ 9223372036854775807) (hk : i.kd = 0) :
    Calls Try.prog 18 #[.pointer (some ⟨b, 0, none⟩), .pointer (some ⟨c, 0, none⟩), i.v] w fun e w' => e = .returned (.bool true) ∧ RdAt w' b (rS s sh 1) (rB s sh 1) ∧ MrAt w' c (rS s sh 1) (rB s sh 1) ∧ Kept b (some c) w w' := by
  have HH := hid (And.intro h g)
  have HZ := hid hz
  have HC := hid (fun w => kind_any i w)
  rw [hk] at HC
  unfold It.v at HC ⊢
  clear h g hk hz
  go_enter Try.func18, Try.ntmps18
  go_wp2_with fail
  refine (HC.out _).mono ?_
  rintro e w1 ⟨rfl, hw1⟩
  have hr1 : RdAt w1 b s sh := by rw [hw1]; exact (HH.out.1.alloc _).alloc _
  have hg1 : MrAt w1 c s sh := by rw [hw1]; exact (HH.out.2.alloc _).alloc _
  have hk1 : Kept b (some c) w w1 := by rw [hw1]; exact ((Kept.refl _ _ _).alloc _).alloc _
  have H1 := hid (And.intro hr1 (And.intro hg1 hk1))
  clear hw1 hr1 hg1 hk1
  go_wp2_with fail
  refine (rbyte_any b s sh w1 H1.out.1).mono ?_
  rintro e w2 ⟨rfl, hr2, hk2⟩
  have hm1 := H1.out.2.1.kept hk2 hbc.symm
  have hz := HZ.out
  have hcc : Calls Try.prog 38 #[.pointer (some ⟨c, 0, none⟩), .int .i64 1] w2 fun e w' => e = .returned (.int .i64 (rN s sh 1)) ∧ MrAt w' c (rS s sh 1) (rB s sh 1) ∧ Kept c none w2 w' := mnum_any c s sh 1 w2 hm1 (by decide) (by decide)
  have H2 := hid (And.intro hr2 (And.intro (H1.out.2.2.trans hk2.also (.inl rfl)) hcc))
  clear hr2 hk2 hm1 hcc hz
  go_wp2_with fail
  refine H2.out.2.2.mono ?_
  rintro e w3 ⟨rfl, hm3, hk3⟩
  have H3 := hid (And.intro (H2.out.1.kept hk3 hbc) (And.intro hm3 (H2.out.2.1.trans hk3.swap (.inl rfl))))
  clear hm3 hk3
  go_wp2
  go_ret
  exact ⟨rfl, H3.out⟩

set_option maxRecDepth 100000 in
set_option maxHeartbeats 1600000 in
theorem same1 (b c : Nat) (s : ByteArray) (sh : Bool) (i : It) (w : World) (h : RdAt w b s sh) (g : MrAt w c s sh) (hbc : b ≠ c) (hz : s.size ≤ 9223372036854775807) (hk : i.kd = 1) :
    Calls Try.prog 18 #[.pointer (some ⟨b, 0, none⟩), .pointer (some ⟨c, 0, none⟩), i.v] w fun e w' => e = .returned (.bool true) ∧ RdAt w' b (rS s sh 2) (rB s sh 2) ∧ MrAt w' c (rS s sh 2) (rB s sh 2) ∧ Kept b (some c) w w' := by
  have HH := hid (And.intro h g)
  have HZ := hid hz
  have HC := hid (fun w => kind_any i w)
  rw [hk] at HC
  unfold It.v at HC ⊢
  clear h g hk hz
  go_enter Try.func18, Try.ntmps18
  go_wp2_with fail
  refine (HC.out _).mono ?_
  rintro e w1 ⟨rfl, hw1⟩
  have hr1 : RdAt w1 b s sh := by rw [hw1]; exact (HH.out.1.alloc _).alloc _
  have hg1 : MrAt w1 c s sh := by rw [hw1]; exact (HH.out.2.alloc _).alloc _
  have hk1 : Kept b (some c) w w1 := by rw [hw1]; exact ((Kept.refl _ _ _).alloc _).alloc _
  have H1 := hid (And.intro hr1 (And.intro hg1 hk1))
  clear hw1 hr1 hg1 hk1
  go_wp2_with fail
  refine (rword_any b s sh w1 H1.out.1).mono ?_
  rintro e w2 ⟨rfl, hr2, hk2⟩
  have hm1 := H1.out.2.1.kept hk2 hbc.symm
  have hz := HZ.out
  have hcc : Calls Try.prog 38 #[.pointer (some ⟨c, 0, none⟩), .int .i64 2] w2 fun e w' => e = .returned (.int .i64 (rN s sh 2)) ∧ MrAt w' c (rS s sh 2) (rB s sh 2) ∧ Kept c none w2 w' := mnum_any c s sh 2 w2 hm1 (by decide) (by decide)
  have H2 := hid (And.intro hr2 (And.intro (H1.out.2.2.trans hk2.also (.inl rfl)) hcc))
  clear hr2 hk2 hm1 hcc hz
  go_wp2_with fail
  refine H2.out.2.2.mono ?_
  rintro e w3 ⟨rfl, hm3, hk3⟩
  have H3 := hid (And.intro (H2.out.1.kept hk3 hbc) (And.intro hm3 (H2.out.2.1.trans hk3.swap (.inl rfl))))
  clear hm3 hk3
  go_wp2
  go_ret
  exact ⟨rfl, H3.out⟩

set_option maxRecDepth 100000 in
set_option maxHeartbeats 1600000 in
theorem same2 (b c : Nat) (s : ByteArray) (sh : Bool) (i : It) (w : World) (h : RdAt w b s sh) (g : MrAt w c s sh) (hbc : b ≠ c) (hz : s.size ≤ 9223372036854775807) (hk : i.kd = 2) :
    Calls Try.prog 18 #[.pointer (some ⟨b, 0, none⟩), .pointer (some ⟨c, 0, none⟩), i.v] w fun e w' => e = .returned (.bool true) ∧ RdAt w' b (rS s sh 4) (rB s sh 4) ∧ MrAt w' c (rS s sh 4) (rB s sh 4) ∧ Kept b (some c) w w' := by
  have HH := hid (And.intro h g)
  have HZ := hid hz
  have HC := hid (fun w => kind_any i w)
  rw [hk] at HC
  unfold It.v at HC ⊢
  clear h g hk hz
  go_enter Try.func18, Try.ntmps18
  go_wp2_with fail
  refine (HC.out _).mono ?_
  rintro e w1 ⟨rfl, hw1⟩
  have hr1 : RdAt w1 b s sh := by rw [hw1]; exact (HH.out.1.alloc _).alloc _
  have hg1 : MrAt w1 c s sh := by rw [hw1]; exact (HH.out.2.alloc _).alloc _
  have hk1 : Kept b (some c) w w1 := by rw [hw1]; exact ((Kept.refl _ _ _).alloc _).alloc _
  have H1 := hid (And.intro hr1 (And.intro hg1 hk1))
  clear hw1 hr1 hg1 hk1
  go_wp2_with fail
  refine (rlong_any b s sh w1 H1.out.1).mono ?_
  rintro e w2 ⟨rfl, hr2, hk2⟩
  have hm1 := H1.out.2.1.kept hk2 hbc.symm
  have hz := HZ.out
  have hcc : Calls Try.prog 38 #[.pointer (some ⟨c, 0, none⟩), .int .i64 4] w2 fun e w' => e = .returned (.int .i64 (rN s sh 4)) ∧ MrAt w' c (rS s sh 4) (rB s sh 4) ∧ Kept c none w2 w' := mnum_any c s sh 4 w2 hm1 (by decide) (by decide)
  have H2 := hid (And.intro hr2 (And.intro (H1.out.2.2.trans hk2.also (.inl rfl)) hcc))
  clear hr2 hk2 hm1 hcc hz
  go_wp2_with fail
  refine H2.out.2.2.mono ?_
  rintro e w3 ⟨rfl, hm3, hk3⟩
  have H3 := hid (And.intro (H2.out.1.kept hk3 hbc) (And.intro hm3 (H2.out.2.1.trans hk3.swap (.inl rfl))))
  clear hm3 hk3
  go_wp2
  go_ret
  exact ⟨rfl, H3.out⟩

set_option maxRecDepth 100000 in
set_option maxHeartbeats 1600000 in
theorem same3 (b c : Nat) (s : ByteArray) (sh : Bool) (i : It) (w : World) (h : RdAt w b s sh) (g : MrAt w c s sh) (hbc : b ≠ c) (hz : s.size ≤ 9223372036854775807) (hk : i.kd = 3) :
    Calls Try.prog 18 #[.pointer (some ⟨b, 0, none⟩), .pointer (some ⟨c, 0, none⟩), i.v] w fun e w' => e = .returned (.bool true) ∧ RdAt w' b (rS s sh 8) (rB s sh 8) ∧ MrAt w' c (rS s sh 8) (rB s sh 8) ∧ Kept b (some c) w w' := by
  have HH := hid (And.intro h g)
  have HZ := hid hz
  have HC := hid (fun w => kind_any i w)
  rw [hk] at HC
  unfold It.v at HC ⊢
  clear h g hk hz
  go_enter Try.func18, Try.ntmps18
  go_wp2_with fail
  refine (HC.out _).mono ?_
  rintro e w1 ⟨rfl, hw1⟩
  have hr1 : RdAt w1 b s sh := by rw [hw1]; exact (HH.out.1.alloc _).alloc _
  have hg1 : MrAt w1 c s sh := by rw [hw1]; exact (HH.out.2.alloc _).alloc _
  have hk1 : Kept b (some c) w w1 := by rw [hw1]; exact ((Kept.refl _ _ _).alloc _).alloc _
  have H1 := hid (And.intro hr1 (And.intro hg1 hk1))
  clear hw1 hr1 hg1 hk1
  go_wp2_with fail
  refine (rbits_any b s sh w1 H1.out.1).mono ?_
  rintro e w2 ⟨rfl, hr2, hk2⟩
  have hm1 := H1.out.2.1.kept hk2 hbc.symm
  have hz := HZ.out
  have hcc : Calls Try.prog 39 #[.pointer (some ⟨c, 0, none⟩), .int .i64 8] w2 fun e w' => e = .returned (.int .u64 (rN s sh 8)) ∧ MrAt w' c (rS s sh 8) (rB s sh 8) ∧ Kept c none w2 w' := mbits_any c s sh 8 w2 hm1 (by decide)
  have H2 := hid (And.intro hr2 (And.intro (H1.out.2.2.trans hk2.also (.inl rfl)) hcc))
  clear hr2 hk2 hm1 hcc hz
  go_wp2_with fail
  refine H2.out.2.2.mono ?_
  rintro e w3 ⟨rfl, hm3, hk3⟩
  have H3 := hid (And.intro (H2.out.1.kept hk3 hbc) (And.intro hm3 (H2.out.2.1.trans hk3.swap (.inl rfl))))
  clear hm3 hk3
  go_wp2
  go_ret
  exact ⟨rfl, H3.out⟩

set_option maxRecDepth 100000 in
set_option maxHeartbeats 1600000 in
theorem same4 (b c : Nat) (s : ByteArray) (sh : Bool) (i : It) (w : World) (h : RdAt w b s sh) (g : MrAt w c s sh) (hbc : b ≠ c) (hz : s.size ≤ 9223372036854775807) (hk : i.kd = 4) :
    Calls Try.prog 18 #[.pointer (some ⟨b, 0, none⟩), .pointer (some ⟨c, 0, none⟩), i.v] w fun e w' => e = .returned (.bool true) ∧ RdAt w' b (tS s sh) (tB s sh) ∧ MrAt w' c (tS s sh) (tB s sh) ∧ Kept b (some c) w w' := by
  have HH := hid (And.intro h g)
  have HZ := hid hz
  have HC := hid (fun w => kind_any i w)
  rw [hk] at HC
  unfold It.v at HC ⊢
  clear h g hk hz
  go_enter Try.func18, Try.ntmps18
  go_wp2_with fail
  refine (HC.out _).mono ?_
  rintro e w1 ⟨rfl, hw1⟩
  have hr1 : RdAt w1 b s sh := by rw [hw1]; exact (HH.out.1.alloc _).alloc _
  have hg1 : MrAt w1 c s sh := by rw [hw1]; exact (HH.out.2.alloc _).alloc _
  have hk1 : Kept b (some c) w w1 := by rw [hw1]; exact ((Kept.refl _ _ _).alloc _).alloc _
  have H1 := hid (And.intro hr1 (And.intro hg1 hk1))
  clear hw1 hr1 hg1 hk1
  go_wp2_with fail
  refine (rtext_any b s sh w1 H1.out.1).mono ?_
  rintro e w2 ⟨rfl, hr2, hk2⟩
  have hm1 := H1.out.2.1.kept hk2 hbc.symm
  have hz := HZ.out
  have hcc : Calls Try.prog 40 #[.pointer (some ⟨c, 0, none⟩)] w2 fun e w' => e = .returned (.string (tT s sh)) ∧ MrAt w' c (tS s sh) (tB s sh) ∧ Kept c none w2 w' := mtext_any c s sh w2 hm1 hz
  have H2 := hid (And.intro hr2 (And.intro (H1.out.2.2.trans hk2.also (.inl rfl)) hcc))
  clear hr2 hk2 hm1 hcc hz
  go_wp2_with fail
  refine H2.out.2.2.mono ?_
  rintro e w3 ⟨rfl, hm3, hk3⟩
  have H3 := hid (And.intro (H2.out.1.kept hk3 hbc) (And.intro hm3 (H2.out.2.1.trans hk3.swap (.inl rfl))))
  clear hm3 hk3
  go_wp2
  go_ret
  exact ⟨rfl, H3.out⟩

theorem same_any (b c : Nat) (s : ByteArray) (sh : Bool) (i : It) (w : World) (h : RdAt w b s sh) (g : MrAt w c s sh) (hbc : b ≠ c) (hz : s.size ≤ 9223372036854775807) :
    Calls Try.prog 18 #[.pointer (some ⟨b, 0, none⟩), .pointer (some ⟨c, 0, none⟩), i.v] w fun e w' => e = .returned (.bool true) ∧ RdAt w' b (itS i.kd s sh) (itB i.kd s sh) ∧ MrAt w' c (itS i.kd s sh) (itB i.kd s sh) ∧ Kept b (some c) w w' := by
  rcases i.kd_bd with hk | hk | hk | hk | hk
  · rw [hk]; exact same0 b c s sh i w h g hbc hz hk
  · rw [hk]; exact same1 b c s sh i w h g hbc hz hk
  · rw [hk]; exact same2 b c s sh i w h g hbc hz hk
  · rw [hk]; exact same3 b c s sh i w h g hbc hz hk
  · rw [hk]; exact same4 b c s sh i w h g hbc hz hk

end Go.Proofs.Ythhgpfcbhaoeiaa
