/- The contracts of package pack's writers of numbers. -/
import Derived.Test.YtecidbdbdnnglaaGreatPkPM
namespace Go.Proofs.YtecidbdbdnnglaaGreat
open Go.RowKit

theorem kept_none {b : Nat} {r : Option Nat} {w w' : World} (h : Kept b none w w') : Kept b r w w' := ⟨h.os, h.tape, h.output, h.size, fun k hk hb _ => h.block k hk hb (by simp)⟩

/-- Is the number one of so many bytes? -/
def inR (s : Nat) (n : Int) : Bool := decide (0 ≤ n ∧ n < ((256 ^ s : Nat) : Int))
/-- The error behind a number of so many bytes; the bytes. -/
def wE (lim : Int) (l : List UInt8) (er : Int) (s : Nat) (n : Int) : Int := adm lim l.length er (inR s n) s
def wL (lim : Int) (l : List UInt8) (er : Int) (s : Nat) (n : Int) : List UInt8 := if adm lim l.length er (inR s n) s = 0 then l ++ be s n.toNat else l

set_option maxRecDepth 100000 in
set_option maxHeartbeats 800000 in
theorem wnum1_yes (b : Nat) (v : Value) (lim : Int) (l : List UInt8) (er : Int) (m : Nat) (w : World) (h : WrAt w b v lim l er)
    (h0 : 0 ≤ lim) (h1 : lim ≤ 9223372036854775807) (hl : l.length + 8 ≤ 140737488355328) (n1 : m < 256) (hd : adm lim l.length er true 1 = 0) :
    Calls Tryz.prog 92 #[.pointer (some ⟨b, 0, none⟩), .int .i64 m, .int .i64 1] w fun e w' => e = .returned (.tuple #[]) ∧ ∃ v', WrAt w' b v' lim (l ++ be 1 m) 0 ∧ Kept b v.ownBlock w w' ∧ Moved w v v' := by
  have hn : ((m : Int) / 256 == 0) = true := by simp; omega
  have ha := admits_any b v lim l er true 1 w h h0 h1 (by omega)
  have hdd : decide (adm lim l.length er true 1 = 0) = true := by simpa using hd
  rw [hdd, hd] at ha
  have HA := hid ha
  have HL := hid hl
  have hm0 : (0 : Int) ≤ (m : Int) := Int.natCast_nonneg _
  have hm1 : (m : Int) ≤ 4294967296 := by omega
  have HM : Hid (m < 18446744073709551616) := by unfold Hid; omega
  clear ha h hd hdd hl n1 h0 h1
  go_enter Tryz.func92, Tryz.ntmps92
  go_wp2_with fail
  refine HA.out.mono ?_
  rintro e w1 ⟨rfl, hr, hk⟩
  have HR := hid hr
  have HK := hid hk
  clear hr hk hn
  go_wp2_with fail
  refine (put_any b v lim l 0 m 1 w1 HR.out (by omega) HM.out HL.out).mono ?_
  rintro e w2 ⟨rfl, v', hv, hk2, hm⟩
  have HV := hid hv
  have HK2 := hid (And.intro hk2 hm)
  clear hv hk2 hm
  go_wp2
  go_end0
  exact ⟨rfl, v', HV.out, (kept_none HK.out).trans HK2.out.1 (.inl rfl), (Moved.refl w v).trans HK2.out.2 HK.out.size⟩

set_option maxRecDepth 100000 in
set_option maxHeartbeats 800000 in
theorem wnum1_no (b : Nat) (v : Value) (lim : Int) (l : List UInt8) (er : Int) (m : Nat) (w : World) (h : WrAt w b v lim l er)
    (h0 : 0 ≤ lim) (h1 : lim ≤ 9223372036854775807) (hl : l.length + 8 ≤ 140737488355328) (n1 : m < 256) (E : Int) (hE : adm lim l.length er true 1 = E) (hd : E ≠ 0) :
    Calls Tryz.prog 92 #[.pointer (some ⟨b, 0, none⟩), .int .i64 m, .int .i64 1] w fun e w' => e = .returned (.tuple #[]) ∧ ∃ v', WrAt w' b v' lim l E ∧ Kept b v.ownBlock w w' ∧ Moved w v v' := by
  have hn : ((m : Int) / 256 == 0) = true := by simp; omega
  have ha := admits_any b v lim l er true 1 w h h0 h1 (by omega)
  have hdd : decide (E = 0) = false := by simpa using hd
  rw [hE, hdd] at ha
  have HA := hid ha
  have hm0 : (0 : Int) ≤ (m : Int) := Int.natCast_nonneg _
  have hm1 : (m : Int) ≤ 4294967296 := by omega
  clear ha h hE hd hdd hl n1 h0 h1
  go_enter Tryz.func92, Tryz.ntmps92
  go_wp2_with fail
  refine HA.out.mono ?_
  rintro e w1 ⟨rfl, hr, hk⟩
  have HR := hid hr
  have HK := hid hk
  clear hr hk hn
  go_wp2
  go_end0
  exact ⟨rfl, v, HR.out, kept_none HK.out, Moved.refl _ _⟩

set_option maxRecDepth 100000 in
set_option maxHeartbeats 800000 in
theorem wnum1_out (b : Nat) (v : Value) (lim : Int) (l : List UInt8) (er : Int) (n : Int) (w : World) (h : WrAt w b v lim l er)
    (h0 : 0 ≤ lim) (h1 : lim ≤ 9223372036854775807) (hl : l.length + 8 ≤ 140737488355328) (hi : n ≤ 9223372036854775807) (hn : n < 0 ∨ 256 ≤ n) (E : Int) (hE : adm lim l.length er false 1 = E) :
    Calls Tryz.prog 92 #[.pointer (some ⟨b, 0, none⟩), .int .i64 n, .int .i64 1] w fun e w' => e = .returned (.tuple #[]) ∧ ∃ v', WrAt w' b v' lim l E ∧ Kept b v.ownBlock w w' ∧ Moved w v v' := by
  have ha := admits_any b v lim l er false 1 w h h0 h1 (by omega)
  have hd : ¬ E = 0 := by rw [← hE]; unfold adm; split <;> simp_all
  have hdd : decide (E = 0) = false := by simpa using hd
  rw [hE, hdd] at ha
  have HA := hid ha
  clear ha h hd hdd hE hl h0 h1
  rcases hn with hn | hn
  · go_enter Tryz.func92, Tryz.ntmps92
    go_wp2_with fail
    refine HA.out.mono ?_
    rintro e w1 ⟨rfl, hr, hk⟩
    have HR := hid hr
    have HK := hid hk
    clear hr hk
    go_wp2
    go_end0
    exact ⟨rfl, v, HR.out, kept_none HK.out, Moved.refl _ _⟩
  · have hq : (n / 256 == 0) = false := by simp; omega
    have hn0 : 0 ≤ n := by omega
    clear hn
    go_enter Tryz.func92, Tryz.ntmps92
    go_wp2_with fail
    refine HA.out.mono ?_
    rintro e w1 ⟨rfl, hr, hk⟩
    have HR := hid hr
    have HK := hid hk
    clear hr hk hq
    go_wp2
    go_end0
    exact ⟨rfl, v, HR.out, kept_none HK.out, Moved.refl _ _⟩

theorem wnum1_any (b : Nat) (v : Value) (lim : Int) (l : List UInt8) (er : Int) (n : Int) (w : World) (h : WrAt w b v lim l er)
    (h0 : 0 ≤ lim) (h1 : lim ≤ 9223372036854775807) (hl : l.length + 8 ≤ 140737488355328) (hi : n ≤ 9223372036854775807) :
    Calls Tryz.prog 92 #[.pointer (some ⟨b, 0, none⟩), .int .i64 n, .int .i64 1] w fun e w' => e = .returned (.tuple #[]) ∧ ∃ v', WrAt w' b v' lim (wL lim l er 1 n) (wE lim l er 1 n) ∧ Kept b v.ownBlock w w' ∧ Moved w v v' := by
  unfold wL wE inR
  by_cases hn : 0 ≤ n ∧ n < 256
  · have e : decide (0 ≤ n ∧ n < ((256 ^ 1 : Nat) : Int)) = true := by simp; omega
    rw [e]
    obtain ⟨m, rfl⟩ : ∃ m : Nat, n = m := ⟨n.toNat, by omega⟩
    by_cases hd : adm lim l.length er true 1 = 0
    · have := wnum1_yes b v lim l er m w h h0 h1 hl (by omega) hd
      simpa [hd] using this
    · have := wnum1_no b v lim l er m w h h0 h1 hl (by omega) _ rfl hd
      simpa [hd] using this
  · have e : decide (0 ≤ n ∧ n < ((256 ^ 1 : Nat) : Int)) = false := by simp; omega
    rw [e]
    have hd : ¬ adm lim l.length er false 1 = 0 := by unfold adm; split <;> simp_all
    have := wnum1_out b v lim l er n w h h0 h1 hl hi (by omega) _ rfl
    simpa [hd] using this

set_option maxRecDepth 100000 in
set_option maxHeartbeats 800000 in
theorem wnum2_yes (b : Nat) (v : Value) (lim : Int) (l : List UInt8) (er : Int) (m : Nat) (w : World) (h : WrAt w b v lim l er)
    (h0 : 0 ≤ lim) (h1 : lim ≤ 9223372036854775807) (hl : l.length + 8 ≤ 140737488355328) (n1 : m < 65536) (hd : adm lim l.length er true 2 = 0) :
    Calls Tryz.prog 92 #[.pointer (some ⟨b, 0, none⟩), .int .i64 m, .int .i64 2] w fun e w' => e = .returned (.tuple #[]) ∧ ∃ v', WrAt w' b v' lim (l ++ be 2 m) 0 ∧ Kept b v.ownBlock w w' ∧ Moved w v v' := by
  have hn : ((m : Int) / 65536 == 0) = true := by simp; omega
  have ha := admits_any b v lim l er true 2 w h h0 h1 (by omega)
  have hdd : decide (adm lim l.length er true 2 = 0) = true := by simpa using hd
  rw [hdd, hd] at ha
  have HA := hid ha
  have HL := hid hl
  have hm0 : (0 : Int) ≤ (m : Int) := Int.natCast_nonneg _
  have hm1 : (m : Int) ≤ 4294967296 := by omega
  have HM : Hid (m < 18446744073709551616) := by unfold Hid; omega
  clear ha h hd hdd hl n1 h0 h1
  go_enter Tryz.func92, Tryz.ntmps92
  go_wp2_with fail
  refine HA.out.mono ?_
  rintro e w1 ⟨rfl, hr, hk⟩
  have HR := hid hr
  have HK := hid hk
  clear hr hk hn
  go_wp2_with fail
  refine (put_any b v lim l 0 m 2 w1 HR.out (by omega) HM.out HL.out).mono ?_
  rintro e w2 ⟨rfl, v', hv, hk2, hm⟩
  have HV := hid hv
  have HK2 := hid (And.intro hk2 hm)
  clear hv hk2 hm
  go_wp2
  go_end0
  exact ⟨rfl, v', HV.out, (kept_none HK.out).trans HK2.out.1 (.inl rfl), (Moved.refl w v).trans HK2.out.2 HK.out.size⟩

set_option maxRecDepth 100000 in
set_option maxHeartbeats 800000 in
theorem wnum2_no (b : Nat) (v : Value) (lim : Int) (l : List UInt8) (er : Int) (m : Nat) (w : World) (h : WrAt w b v lim l er)
    (h0 : 0 ≤ lim) (h1 : lim ≤ 9223372036854775807) (hl : l.length + 8 ≤ 140737488355328) (n1 : m < 65536) (E : Int) (hE : adm lim l.length er true 2 = E) (hd : E ≠ 0) :
    Calls Tryz.prog 92 #[.pointer (some ⟨b, 0, none⟩), .int .i64 m, .int .i64 2] w fun e w' => e = .returned (.tuple #[]) ∧ ∃ v', WrAt w' b v' lim l E ∧ Kept b v.ownBlock w w' ∧ Moved w v v' := by
  have hn : ((m : Int) / 65536 == 0) = true := by simp; omega
  have ha := admits_any b v lim l er true 2 w h h0 h1 (by omega)
  have hdd : decide (E = 0) = false := by simpa using hd
  rw [hE, hdd] at ha
  have HA := hid ha
  have hm0 : (0 : Int) ≤ (m : Int) := Int.natCast_nonneg _
  have hm1 : (m : Int) ≤ 4294967296 := by omega
  clear ha h hE hd hdd hl n1 h0 h1
  go_enter Tryz.func92, Tryz.ntmps92
  go_wp2_with fail
  refine HA.out.mono ?_
  rintro e w1 ⟨rfl, hr, hk⟩
  have HR := hid hr
  have HK := hid hk
  clear hr hk hn
  go_wp2
  go_end0
  exact ⟨rfl, v, HR.out, kept_none HK.out, Moved.refl _ _⟩

set_option maxRecDepth 100000 in
set_option maxHeartbeats 800000 in
theorem wnum2_out (b : Nat) (v : Value) (lim : Int) (l : List UInt8) (er : Int) (n : Int) (w : World) (h : WrAt w b v lim l er)
    (h0 : 0 ≤ lim) (h1 : lim ≤ 9223372036854775807) (hl : l.length + 8 ≤ 140737488355328) (hi : n ≤ 9223372036854775807) (hn : n < 0 ∨ 65536 ≤ n) (E : Int) (hE : adm lim l.length er false 2 = E) :
    Calls Tryz.prog 92 #[.pointer (some ⟨b, 0, none⟩), .int .i64 n, .int .i64 2] w fun e w' => e = .returned (.tuple #[]) ∧ ∃ v', WrAt w' b v' lim l E ∧ Kept b v.ownBlock w w' ∧ Moved w v v' := by
  have ha := admits_any b v lim l er false 2 w h h0 h1 (by omega)
  have hd : ¬ E = 0 := by rw [← hE]; unfold adm; split <;> simp_all
  have hdd : decide (E = 0) = false := by simpa using hd
  rw [hE, hdd] at ha
  have HA := hid ha
  clear ha h hd hdd hE hl h0 h1
  rcases hn with hn | hn
  · go_enter Tryz.func92, Tryz.ntmps92
    go_wp2_with fail
    refine HA.out.mono ?_
    rintro e w1 ⟨rfl, hr, hk⟩
    have HR := hid hr
    have HK := hid hk
    clear hr hk
    go_wp2
    go_end0
    exact ⟨rfl, v, HR.out, kept_none HK.out, Moved.refl _ _⟩
  · have hq : (n / 65536 == 0) = false := by simp; omega
    have hn0 : 0 ≤ n := by omega
    clear hn
    go_enter Tryz.func92, Tryz.ntmps92
    go_wp2_with fail
    refine HA.out.mono ?_
    rintro e w1 ⟨rfl, hr, hk⟩
    have HR := hid hr
    have HK := hid hk
    clear hr hk hq
    go_wp2
    go_end0
    exact ⟨rfl, v, HR.out, kept_none HK.out, Moved.refl _ _⟩

theorem wnum2_any (b : Nat) (v : Value) (lim : Int) (l : List UInt8) (er : Int) (n : Int) (w : World) (h : WrAt w b v lim l er)
    (h0 : 0 ≤ lim) (h1 : lim ≤ 9223372036854775807) (hl : l.length + 8 ≤ 140737488355328) (hi : n ≤ 9223372036854775807) :
    Calls Tryz.prog 92 #[.pointer (some ⟨b, 0, none⟩), .int .i64 n, .int .i64 2] w fun e w' => e = .returned (.tuple #[]) ∧ ∃ v', WrAt w' b v' lim (wL lim l er 2 n) (wE lim l er 2 n) ∧ Kept b v.ownBlock w w' ∧ Moved w v v' := by
  unfold wL wE inR
  by_cases hn : 0 ≤ n ∧ n < 65536
  · have e : decide (0 ≤ n ∧ n < ((256 ^ 2 : Nat) : Int)) = true := by simp; omega
    rw [e]
    obtain ⟨m, rfl⟩ : ∃ m : Nat, n = m := ⟨n.toNat, by omega⟩
    by_cases hd : adm lim l.length er true 2 = 0
    · have := wnum2_yes b v lim l er m w h h0 h1 hl (by omega) hd
      simpa [hd] using this
    · have := wnum2_no b v lim l er m w h h0 h1 hl (by omega) _ rfl hd
      simpa [hd] using this
  · have e : decide (0 ≤ n ∧ n < ((256 ^ 2 : Nat) : Int)) = false := by simp; omega
    rw [e]
    have hd : ¬ adm lim l.length er false 2 = 0 := by unfold adm; split <;> simp_all
    have := wnum2_out b v lim l er n w h h0 h1 hl hi (by omega) _ rfl
    simpa [hd] using this

set_option maxRecDepth 100000 in
set_option maxHeartbeats 800000 in
theorem wnum4_yes (b : Nat) (v : Value) (lim : Int) (l : List UInt8) (er : Int) (m : Nat) (w : World) (h : WrAt w b v lim l er)
    (h0 : 0 ≤ lim) (h1 : lim ≤ 9223372036854775807) (hl : l.length + 8 ≤ 140737488355328) (n1 : m < 4294967296) (hd : adm lim l.length er true 4 = 0) :
    Calls Tryz.prog 92 #[.pointer (some ⟨b, 0, none⟩), .int .i64 m, .int .i64 4] w fun e w' => e = .returned (.tuple #[]) ∧ ∃ v', WrAt w' b v' lim (l ++ be 4 m) 0 ∧ Kept b v.ownBlock w w' ∧ Moved w v v' := by
  have hn : ((m : Int) / 4294967296 == 0) = true := by simp; omega
  have ha := admits_any b v lim l er true 4 w h h0 h1 (by omega)
  have hdd : decide (adm lim l.length er true 4 = 0) = true := by simpa using hd
  rw [hdd, hd] at ha
  have HA := hid ha
  have HL := hid hl
  have hm0 : (0 : Int) ≤ (m : Int) := Int.natCast_nonneg _
  have hm1 : (m : Int) ≤ 4294967296 := by omega
  have HM : Hid (m < 18446744073709551616) := by unfold Hid; omega
  clear ha h hd hdd hl n1 h0 h1
  go_enter Tryz.func92, Tryz.ntmps92
  go_wp2_with fail
  refine HA.out.mono ?_
  rintro e w1 ⟨rfl, hr, hk⟩
  have HR := hid hr
  have HK := hid hk
  clear hr hk hn
  go_wp2_with fail
  refine (put_any b v lim l 0 m 4 w1 HR.out (by omega) HM.out HL.out).mono ?_
  rintro e w2 ⟨rfl, v', hv, hk2, hm⟩
  have HV := hid hv
  have HK2 := hid (And.intro hk2 hm)
  clear hv hk2 hm
  go_wp2
  go_end0
  exact ⟨rfl, v', HV.out, (kept_none HK.out).trans HK2.out.1 (.inl rfl), (Moved.refl w v).trans HK2.out.2 HK.out.size⟩

set_option maxRecDepth 100000 in
set_option maxHeartbeats 800000 in
theorem wnum4_no (b : Nat) (v : Value) (lim : Int) (l : List UInt8) (er : Int) (m : Nat) (w : World) (h : WrAt w b v lim l er)
    (h0 : 0 ≤ lim) (h1 : lim ≤ 9223372036854775807) (hl : l.length + 8 ≤ 140737488355328) (n1 : m < 4294967296) (E : Int) (hE : adm lim l.length er true 4 = E) (hd : E ≠ 0) :
    Calls Tryz.prog 92 #[.pointer (some ⟨b, 0, none⟩), .int .i64 m, .int .i64 4] w fun e w' => e = .returned (.tuple #[]) ∧ ∃ v', WrAt w' b v' lim l E ∧ Kept b v.ownBlock w w' ∧ Moved w v v' := by
  have hn : ((m : Int) / 4294967296 == 0) = true := by simp; omega
  have ha := admits_any b v lim l er true 4 w h h0 h1 (by omega)
  have hdd : decide (E = 0) = false := by simpa using hd
  rw [hE, hdd] at ha
  have HA := hid ha
  have hm0 : (0 : Int) ≤ (m : Int) := Int.natCast_nonneg _
  have hm1 : (m : Int) ≤ 4294967296 := by omega
  clear ha h hE hd hdd hl n1 h0 h1
  go_enter Tryz.func92, Tryz.ntmps92
  go_wp2_with fail
  refine HA.out.mono ?_
  rintro e w1 ⟨rfl, hr, hk⟩
  have HR := hid hr
  have HK := hid hk
  clear hr hk hn
  go_wp2
  go_end0
  exact ⟨rfl, v, HR.out, kept_none HK.out, Moved.refl _ _⟩

set_option maxRecDepth 100000 in
set_option maxHeartbeats 800000 in
theorem wnum4_out (b : Nat) (v : Value) (lim : Int) (l : List UInt8) (er : Int) (n : Int) (w : World) (h : WrAt w b v lim l er)
    (h0 : 0 ≤ lim) (h1 : lim ≤ 9223372036854775807) (hl : l.length + 8 ≤ 140737488355328) (hi : n ≤ 9223372036854775807) (hn : n < 0 ∨ 4294967296 ≤ n) (E : Int) (hE : adm lim l.length er false 4 = E) :
    Calls Tryz.prog 92 #[.pointer (some ⟨b, 0, none⟩), .int .i64 n, .int .i64 4] w fun e w' => e = .returned (.tuple #[]) ∧ ∃ v', WrAt w' b v' lim l E ∧ Kept b v.ownBlock w w' ∧ Moved w v v' := by
  have ha := admits_any b v lim l er false 4 w h h0 h1 (by omega)
  have hd : ¬ E = 0 := by rw [← hE]; unfold adm; split <;> simp_all
  have hdd : decide (E = 0) = false := by simpa using hd
  rw [hE, hdd] at ha
  have HA := hid ha
  clear ha h hd hdd hE hl h0 h1
  rcases hn with hn | hn
  · go_enter Tryz.func92, Tryz.ntmps92
    go_wp2_with fail
    refine HA.out.mono ?_
    rintro e w1 ⟨rfl, hr, hk⟩
    have HR := hid hr
    have HK := hid hk
    clear hr hk
    go_wp2
    go_end0
    exact ⟨rfl, v, HR.out, kept_none HK.out, Moved.refl _ _⟩
  · have hq : (n / 4294967296 == 0) = false := by simp; omega
    have hn0 : 0 ≤ n := by omega
    clear hn
    go_enter Tryz.func92, Tryz.ntmps92
    go_wp2_with fail
    refine HA.out.mono ?_
    rintro e w1 ⟨rfl, hr, hk⟩
    have HR := hid hr
    have HK := hid hk
    clear hr hk hq
    go_wp2
    go_end0
    exact ⟨rfl, v, HR.out, kept_none HK.out, Moved.refl _ _⟩

theorem wnum4_any (b : Nat) (v : Value) (lim : Int) (l : List UInt8) (er : Int) (n : Int) (w : World) (h : WrAt w b v lim l er)
    (h0 : 0 ≤ lim) (h1 : lim ≤ 9223372036854775807) (hl : l.length + 8 ≤ 140737488355328) (hi : n ≤ 9223372036854775807) :
    Calls Tryz.prog 92 #[.pointer (some ⟨b, 0, none⟩), .int .i64 n, .int .i64 4] w fun e w' => e = .returned (.tuple #[]) ∧ ∃ v', WrAt w' b v' lim (wL lim l er 4 n) (wE lim l er 4 n) ∧ Kept b v.ownBlock w w' ∧ Moved w v v' := by
  unfold wL wE inR
  by_cases hn : 0 ≤ n ∧ n < 4294967296
  · have e : decide (0 ≤ n ∧ n < ((256 ^ 4 : Nat) : Int)) = true := by simp; omega
    rw [e]
    obtain ⟨m, rfl⟩ : ∃ m : Nat, n = m := ⟨n.toNat, by omega⟩
    by_cases hd : adm lim l.length er true 4 = 0
    · have := wnum4_yes b v lim l er m w h h0 h1 hl (by omega) hd
      simpa [hd] using this
    · have := wnum4_no b v lim l er m w h h0 h1 hl (by omega) _ rfl hd
      simpa [hd] using this
  · have e : decide (0 ≤ n ∧ n < ((256 ^ 4 : Nat) : Int)) = false := by simp; omega
    rw [e]
    have hd : ¬ adm lim l.length er false 4 = 0 := by unfold adm; split <;> simp_all
    have := wnum4_out b v lim l er n w h h0 h1 hl hi (by omega) _ rfl
    simpa [hd] using this

theorem wnum1_nil (n : Int) (w : World) : Calls Tryz.prog 92 #[.pointer none, .int .i64 n, .int .i64 1] w fun e w' => e = .returned (.tuple #[]) ∧ w' = w := by
  by_cases hn : 0 ≤ n
  · go_enter Tryz.func92, Tryz.ntmps92
    go_wp2_with (go_at_call 93; refine (admits_nil _ _ _).mono ?_; rintro e w1 ⟨rfl, rfl⟩)
    go_end0
    exact ⟨rfl, rfl⟩
  · go_enter Tryz.func92, Tryz.ntmps92
    go_wp2_with (go_at_call 93; refine (admits_nil _ _ _).mono ?_; rintro e w1 ⟨rfl, rfl⟩)
    go_end0
    exact ⟨rfl, rfl⟩

theorem wnum2_nil (n : Int) (w : World) : Calls Tryz.prog 92 #[.pointer none, .int .i64 n, .int .i64 2] w fun e w' => e = .returned (.tuple #[]) ∧ w' = w := by
  by_cases hn : 0 ≤ n
  · go_enter Tryz.func92, Tryz.ntmps92
    go_wp2_with (go_at_call 93; refine (admits_nil _ _ _).mono ?_; rintro e w1 ⟨rfl, rfl⟩)
    go_end0
    exact ⟨rfl, rfl⟩
  · go_enter Tryz.func92, Tryz.ntmps92
    go_wp2_with (go_at_call 93; refine (admits_nil _ _ _).mono ?_; rintro e w1 ⟨rfl, rfl⟩)
    go_end0
    exact ⟨rfl, rfl⟩

theorem wnum4_nil (n : Int) (w : World) : Calls Tryz.prog 92 #[.pointer none, .int .i64 n, .int .i64 4] w fun e w' => e = .returned (.tuple #[]) ∧ w' = w := by
  by_cases hn : 0 ≤ n
  · go_enter Tryz.func92, Tryz.ntmps92
    go_wp2_with (go_at_call 93; refine (admits_nil _ _ _).mono ?_; rintro e w1 ⟨rfl, rfl⟩)
    go_end0
    exact ⟨rfl, rfl⟩
  · go_enter Tryz.func92, Tryz.ntmps92
    go_wp2_with (go_at_call 93; refine (admits_nil _ _ _).mono ?_; rintro e w1 ⟨rfl, rfl⟩)
    go_end0
    exact ⟨rfl, rfl⟩

set_option maxHeartbeats 400000 in
theorem wbyte_any (b : Nat) (v : Value) (lim : Int) (l : List UInt8) (er : Int) (n : Int) (w : World) (h : WrAt w b v lim l er)
    (h0 : 0 ≤ lim) (h1 : lim ≤ 9223372036854775807) (hl : l.length + 8 ≤ 140737488355328) (hi : n ≤ 9223372036854775807) :
    Calls Tryz.prog 55 #[.pointer (some ⟨b, 0, none⟩), .int .i64 n] w fun e w' => e = .returned (.tuple #[]) ∧ ∃ v', WrAt w' b v' lim (wL lim l er 1 n) (wE lim l er 1 n) ∧ Kept b v.ownBlock w w' ∧ Moved w v v' := by
  have hc := hid (wnum1_any b v lim l er n w h h0 h1 hl hi)
  clear h
  go_enter Tryz.func55, Tryz.ntmps55
  go_wp2_with fail
  refine hc.out.mono ?_
  rintro e w1 ⟨rfl, hr⟩
  have HR := hid hr
  clear hr
  go_wp2
  go_end0
  exact ⟨rfl, HR.out⟩

theorem wbyte_nil (n : Int) (w : World) : Calls Tryz.prog 55 #[.pointer none, .int .i64 n] w fun e w' => e = .returned (.tuple #[]) ∧ w' = w := by
  go_enter Tryz.func55, Tryz.ntmps55
  go_wp2_with (go_at_call 92; refine (wnum1_nil _ _).mono ?_; rintro e w1 ⟨rfl, rfl⟩)
  go_end0
  exact ⟨rfl, rfl⟩

set_option maxHeartbeats 400000 in
theorem wword_any (b : Nat) (v : Value) (lim : Int) (l : List UInt8) (er : Int) (n : Int) (w : World) (h : WrAt w b v lim l er)
    (h0 : 0 ≤ lim) (h1 : lim ≤ 9223372036854775807) (hl : l.length + 8 ≤ 140737488355328) (hi : n ≤ 9223372036854775807) :
    Calls Tryz.prog 91 #[.pointer (some ⟨b, 0, none⟩), .int .i64 n] w fun e w' => e = .returned (.tuple #[]) ∧ ∃ v', WrAt w' b v' lim (wL lim l er 2 n) (wE lim l er 2 n) ∧ Kept b v.ownBlock w w' ∧ Moved w v v' := by
  have hc := hid (wnum2_any b v lim l er n w h h0 h1 hl hi)
  clear h
  go_enter Tryz.func91, Tryz.ntmps91
  go_wp2_with fail
  refine hc.out.mono ?_
  rintro e w1 ⟨rfl, hr⟩
  have HR := hid hr
  clear hr
  go_wp2
  go_end0
  exact ⟨rfl, HR.out⟩

theorem wword_nil (n : Int) (w : World) : Calls Tryz.prog 91 #[.pointer none, .int .i64 n] w fun e w' => e = .returned (.tuple #[]) ∧ w' = w := by
  go_enter Tryz.func91, Tryz.ntmps91
  go_wp2_with (go_at_call 92; refine (wnum2_nil _ _).mono ?_; rintro e w1 ⟨rfl, rfl⟩)
  go_end0
  exact ⟨rfl, rfl⟩

set_option maxHeartbeats 400000 in
theorem wlong_any (b : Nat) (v : Value) (lim : Int) (l : List UInt8) (er : Int) (n : Int) (w : World) (h : WrAt w b v lim l er)
    (h0 : 0 ≤ lim) (h1 : lim ≤ 9223372036854775807) (hl : l.length + 8 ≤ 140737488355328) (hi : n ≤ 9223372036854775807) :
    Calls Tryz.prog 57 #[.pointer (some ⟨b, 0, none⟩), .int .i64 n] w fun e w' => e = .returned (.tuple #[]) ∧ ∃ v', WrAt w' b v' lim (wL lim l er 4 n) (wE lim l er 4 n) ∧ Kept b v.ownBlock w w' ∧ Moved w v v' := by
  have hc := hid (wnum4_any b v lim l er n w h h0 h1 hl hi)
  clear h
  go_enter Tryz.func57, Tryz.ntmps57
  go_wp2_with fail
  refine hc.out.mono ?_
  rintro e w1 ⟨rfl, hr⟩
  have HR := hid hr
  clear hr
  go_wp2
  go_end0
  exact ⟨rfl, HR.out⟩

theorem wlong_nil (n : Int) (w : World) : Calls Tryz.prog 57 #[.pointer none, .int .i64 n] w fun e w' => e = .returned (.tuple #[]) ∧ w' = w := by
  go_enter Tryz.func57, Tryz.ntmps57
  go_wp2_with (go_at_call 92; refine (wnum4_nil _ _).mono ?_; rintro e w1 ⟨rfl, rfl⟩)
  go_end0
  exact ⟨rfl, rfl⟩

end Go.Proofs.YtecidbdbdnnglaaGreat
