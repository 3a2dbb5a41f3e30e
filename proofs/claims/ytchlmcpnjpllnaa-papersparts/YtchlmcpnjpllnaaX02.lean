/- Texts laid together: PkN MwA MwB MwC BaD PaD BaE PaE. -/
import Derived.Test.YtchlmcpnjpllnaaX01
import Derived.Laws.MakeOwn
import Derived.Maps.AppendAt
import Derived.OrdersHeld
import Derived.Deep.RegionLaw
import Derived.Deep.Onto
/- The contracts of package pack's writers of numbers. -/
namespace Go.Proofs.Ytchlmcpnjpllnaa
open Go.RowKit

theorem kept_none {b : Nat} {r : Option Nat} {w w' : World} (h : Kept b none w w') : Kept b r w w' := ⟨h.os, h.tape, h.output, h.size, fun k hk hb _ => h.block k hk hb (by simp)⟩

/-- Is the number one of so many bytes? -/
def inR (s : Nat) (n : Int) : Bool := decide (0 ≤ n ∧ n < ((256 ^ s : Nat) : Int))
/-- The error behind a number of so many bytes; the bytes. -/
def wE (lim : Int) (l : List UInt8) (er : Int) (s : Nat) (n : Int) : Int := adm lim l.length er (inR s n) s
def wL (lim : Int) (l : List UInt8) (er : Int) (s : Nat) (n : Int) : List UInt8 := if adm lim l.length er (inR s n) s = 0 then l ++ be s n.toNat else l

set_option maxRecDepth 100000 in
set_option maxHeartbeats 800000 in
theorem wnum1_yes (b : Nat) (v : Value) (lim : Int) (l : List UInt8) (er : Int) (m : Nat) (w : World) (h : WrAt w b v lim l er)
    (h0 : 0 ≤ lim) (h1 : lim ≤ 9223372036854775807) (hl : l.length + 8 ≤ 140737488355328) (n1 : m < 256) (hd : adm lim l.length er true 1 = 0) :
    Calls Try.prog 57 #[.pointer (some ⟨b, 0, none⟩), .int .i64 m, .int .i64 1] w fun e w' => e = .returned (.tuple #[]) ∧ ∃ v', WrAt w' b v' lim (l ++ be 1 m) 0 ∧ Kept b v.ownBlock w w' ∧ Moved w v v' := by
  have hn : ((m : Int) / 256 == 0) = true := by simp; omega
  have ha := admits_any b v lim l er true 1 w h h0 h1 (by omega)
  have hdd : decide (adm lim l.length er true 1 = 0) = true := by simpa using hd
  rw [hdd, hd] at ha
  have HA := hid ha
  have HL := hid hl
  have hm0 : (0 : Int) ≤ (m : Int) := Int.natCast_nonneg _
  have hm1 : (m : Int) ≤ 4294967296 := by omega
  have HM : Hid (m < 18446744073709551616) := by unfold Hid; omega
  clear ha h hd hdd hl n1 h0 h1
  go_enter Try.func57, Try.ntmps57
  go_wp2_with fail
  refine HA.out.mono ?_
  rintro e w1 ⟨rfl, hr, hk⟩
  have HR := hid hr
  have HK := hid hk
  clear hr hk hn
  go_wp2_with fail
  refine (put_any b v lim l 0 m 1 w1 HR.out (by omega) HM.out HL.out).mono ?_
  rintro e w2 ⟨rfl, v', hv, hk2, hm⟩
  have HV := hid hv
  have HK2 := hid (And.intro hk2 hm)
  clear hv hk2 hm
  go_wp2
  go_end0
  exact ⟨rfl, v', HV.out, (kept_none HK.out).trans HK2.out.1 (.inl rfl), (Moved.refl w v).trans HK2.out.2 HK.out.size⟩

set_option maxRecDepth 100000 in
set_option maxHeartbeats 800000 in
theorem wnum1_no (b : Nat) (v : Value) (lim : Int) (l : List UInt8) (er : Int) (m : Nat) (w : World) (h : WrAt w b v lim l er)
    (h0 : 0 ≤ lim) (h1 : lim ≤ 9223372036854775807) (hl : l.length + 8 ≤ 140737488355328) (n1 : m < 256) (E : Int) (hE : adm lim l.length er true 1 = E) (hd : E ≠ 0) :
    Calls Try.prog 57 #[.pointer (some ⟨b, 0, none⟩), .int .i64 m, .int .i64 1] w fun e w' => e = .returned (.tuple #[]) ∧ ∃ v', WrAt w' b v' lim l E ∧ Kept b v.ownBlock w w' ∧ Moved w v v' := by
  have hn : ((m : Int) / 256 == 0) = true := by simp; omega
  have ha := admits_any b v lim l er true 1 w h h0 h1 (by omega)
  have hdd : decide (E = 0) = false := by simpa using hd
  rw [hE, hdd] at ha
  have HA := hid ha
  have hm0 : (0 : Int) ≤ (m : Int) := Int.natCast_nonneg _
  have hm1 : (m : Int) ≤ 4294967296 := by omega
  clear ha h hE hd hdd hl n1 h0 h1
  go_enter Try.func57, Try.ntmps57
  go_wp2_with fail
  refine HA.out.mono ?_
  rintro e w1 ⟨rfl, hr, hk⟩
  have HR := hid hr
  have HK := hid hk
  clear hr hk hn
  go_wp2
  go_end0
  exact ⟨rfl, v, HR.out, kept_none HK.out, Moved.refl _ _⟩

set_option maxRecDepth 100000 in
set_option maxHeartbeats 800000 in
theorem wnum1_out (b : Nat) (v : Value) (lim : Int) (l : List UInt8) (er : Int) (n : Int) (w : World) (h : WrAt w b v lim l er)
    (h0 : 0 ≤ lim) (h1 : lim ≤ 9223372036854775807) (hl : l.length + 8 ≤ 140737488355328) (hi : n ≤ 9223372036854775807) (hn : n < 0 ∨ 256 ≤ n) (E : Int) (hE : adm lim l.length er false 1 = E) :
    Calls Try.prog 57 #[.pointer (some ⟨b, 0, none⟩), .int .i64 n, .int .i64 1] w fun e w' => e = .returned (.tuple #[]) ∧ ∃ v', WrAt w' b v' lim l E ∧ Kept b v.ownBlock w w' ∧ Moved w v v' := by
  have ha := admits_any b v lim l er false 1 w h h0 h1 (by omega)
  have hd : ¬ E = 0 := by rw [← hE]; unfold adm; split <;> simp_all
  have hdd : decide (E = 0) = false := by simpa using hd
  rw [hE, hdd] at ha
  have HA := hid ha
  clear ha h hd hdd hE hl h0 h1
  rcases hn with hn | hn
  · go_enter Try.func57, Try.ntmps57
    go_wp2_with fail
    refine HA.out.mono ?_
    rintro e w1 ⟨rfl, hr, hk⟩
    have HR := hid hr
    have HK := hid hk
    clear hr hk
    go_wp2
    go_end0
    exact ⟨rfl, v, HR.out, kept_none HK.out, Moved.refl _ _⟩
  · have hq : (n / 256 == 0) = false := by simp; omega
    have hn0 : 0 ≤ n := by omega
    clear hn
    go_enter Try.func57, Try.ntmps57
    go_wp2_with fail
    refine HA.out.mono ?_
    rintro e w1 ⟨rfl, hr, hk⟩
    have HR := hid hr
    have HK := hid hk
    clear hr hk hq
    go_wp2
    go_end0
    exact ⟨rfl, v, HR.out, kept_none HK.out, Moved.refl _ _⟩

theorem wnum1_any (b : Nat) (v : Value) (lim : Int) (l : List UInt8) (er : Int) (n : Int) (w : World) (h : WrAt w b v lim l er)
    (h0 : 0 ≤ lim) (h1 : lim ≤ 9223372036854775807) (hl : l.length + 8 ≤ 140737488355328) (hi : n ≤ 9223372036854775807) :
    Calls Try.prog 57 #[.pointer (some ⟨b, 0, none⟩), .int .i64 n, .int .i64 1] w fun e w' => e = .returned (.tuple #[]) ∧ ∃ v', WrAt w' b v' lim (wL lim l er 1 n) (wE lim l er 1 n) ∧ Kept b v.ownBlock w w' ∧ Moved w v v' := by
  unfold wL wE inR
  by_cases hn : 0 ≤ n ∧ n < 256
  · have e : decide (0 ≤ n ∧ n < ((256 ^ 1 : Nat) : Int)) = true := by simp; omega
    rw [e]
    obtain ⟨m, rfl⟩ : ∃ m : Nat, n = m := ⟨n.toNat, by omega⟩
    by_cases hd : adm lim l.length er true 1 = 0
    · have := wnum1_yes b v lim l er m w h h0 h1 hl (by omega) hd
      simpa [hd] using this
    · have := wnum1_no b v lim l er m w h h0 h1 hl (by omega) _ rfl hd
      simpa [hd] using this
  · have e : decide (0 ≤ n ∧ n < ((256 ^ 1 : Nat) : Int)) = false := by simp; omega
    rw [e]
    have hd : ¬ adm lim l.length er false 1 = 0 := by unfold adm; split <;> simp_all
    have := wnum1_out b v lim l er n w h h0 h1 hl hi (by omega) _ rfl
    simpa [hd] using this

set_option maxRecDepth 100000 in
set_option maxHeartbeats 800000 in
theorem wnum2_yes (b : Nat) (v : Value) (lim : Int) (l : List UInt8) (er : Int) (m : Nat) (w : World) (h : WrAt w b v lim l er)
    (h0 : 0 ≤ lim) (h1 : lim ≤ 9223372036854775807) (hl : l.length + 8 ≤ 140737488355328) (n1 : m < 65536) (hd : adm lim l.length er true 2 = 0) :
    Calls Try.prog 57 #[.pointer (some ⟨b, 0, none⟩), .int .i64 m, .int .i64 2] w fun e w' => e = .returned (.tuple #[]) ∧ ∃ v', WrAt w' b v' lim (l ++ be 2 m) 0 ∧ Kept b v.ownBlock w w' ∧ Moved w v v' := by
  have hn : ((m : Int) / 65536 == 0) = true := by simp; omega
  have ha := admits_any b v lim l er true 2 w h h0 h1 (by omega)
  have hdd : decide (adm lim l.length er true 2 = 0) = true := by simpa using hd
  rw [hdd, hd] at ha
  have HA := hid ha
  have HL := hid hl
  have hm0 : (0 : Int) ≤ (m : Int) := Int.natCast_nonneg _
  have hm1 : (m : Int) ≤ 4294967296 := by omega
  have HM : Hid (m < 18446744073709551616) := by unfold Hid; omega
  clear ha h hd hdd hl n1 h0 h1
  go_enter Try.func57, Try.ntmps57
  go_wp2_with fail
  refine HA.out.mono ?_
  rintro e w1 ⟨rfl, hr, hk⟩
  have HR := hid hr
  have HK := hid hk
  clear hr hk hn
  go_wp2_with fail
  refine (put_any b v lim l 0 m 2 w1 HR.out (by omega) HM.out HL.out).mono ?_
  rintro e w2 ⟨rfl, v', hv, hk2, hm⟩
  have HV := hid hv
  have HK2 := hid (And.intro hk2 hm)
  clear hv hk2 hm
  go_wp2
  go_end0
  exact ⟨rfl, v', HV.out, (kept_none HK.out).trans HK2.out.1 (.inl rfl), (Moved.refl w v).trans HK2.out.2 HK.out.size⟩

set_option maxRecDepth 100000 in
set_option maxHeartbeats 800000 in
theorem wnum2_no (b : Nat) (v : Value) (lim : Int) (l : List UInt8) (er : Int) (m : Nat) (w : World) (h : WrAt w b v lim l er)
    (h0 : 0 ≤ lim) (h1 : lim ≤ 9223372036854775807) (hl : l.length + 8 ≤ 140737488355328) (n1 : m < 65536) (E : Int) (hE : adm lim l.length er true 2 = E) (hd : E ≠ 0) :
    Calls Try.prog 57 #[.pointer (some ⟨b, 0, none⟩), .int .i64 m, .int .i64 2] w fun e w' => e = .returned (.tuple #[]) ∧ ∃ v', WrAt w' b v' lim l E ∧ Kept b v.ownBlock w w' ∧ Moved w v v' := by
  have hn : ((m : Int) / 65536 == 0) = true := by simp; omega
  have ha := admits_any b v lim l er true 2 w h h0 h1 (by omega)
  have hdd : decide (E = 0) = false := by simpa using hd
  rw [hE, hdd] at ha
  have HA := hid ha
  have hm0 : (0 : Int) ≤ (m : Int) := Int.natCast_nonneg _
  have hm1 : (m : Int) ≤ 4294967296 := by omega
  clear ha h hE hd hdd hl n1 h0 h1
  go_enter Try.func57, Try.ntmps57
  go_wp2_with fail
  refine HA.out.mono ?_
  rintro e w1 ⟨rfl, hr, hk⟩
  have HR := hid hr
  have HK := hid hk
  clear hr hk hn
  go_wp2
  go_end0
  exact ⟨rfl, v, HR.out, kept_none HK.out, Moved.refl _ _⟩

set_option maxRecDepth 100000 in
set_option maxHeartbeats 800000 in
theorem wnum2_out (b : Nat) (v : Value) (lim : Int) (l : List UInt8) (er : Int) (n : Int) (w : World) (h : WrAt w b v lim l er)
    (h0 : 0 ≤ lim) (h1 : lim ≤ 9223372036854775807) (hl : l.length + 8 ≤ 140737488355328) (hi : n ≤ 9223372036854775807) (hn : n < 0 ∨ 65536 ≤ n) (E : Int) (hE : adm lim l.length er false 2 = E) :
    Calls Try.prog 57 #[.pointer (some ⟨b, 0, none⟩), .int .i64 n, .int .i64 2] w fun e w' => e = .returned (.tuple #[]) ∧ ∃ v', WrAt w' b v' lim l E ∧ Kept b v.ownBlock w w' ∧ Moved w v v' := by
  have ha := admits_any b v lim l er false 2 w h h0 h1 (by omega)
  have hd : ¬ E = 0 := by rw [← hE]; unfold adm; split <;> simp_all
  have hdd : decide (E = 0) = false := by simpa using hd
  rw [hE, hdd] at ha
  have HA := hid ha
  clear ha h hd hdd hE hl h0 h1
  rcases hn with hn | hn
  · go_enter Try.func57, Try.ntmps57
    go_wp2_with fail
    refine HA.out.mono ?_
    rintro e w1 ⟨rfl, hr, hk⟩
    have HR := hid hr
    have HK := hid hk
    clear hr hk
    go_wp2
    go_end0
    exact ⟨rfl, v, HR.out, kept_none HK.out, Moved.refl _ _⟩
  · have hq : (n / 65536 == 0) = false := by simp; omega
    have hn0 : 0 ≤ n := by omega
    clear hn
    go_enter Try.func57, Try.ntmps57
    go_wp2_with fail
    refine HA.out.mono ?_
    rintro e w1 ⟨rfl, hr, hk⟩
    have HR := hid hr
    have HK := hid hk
    clear hr hk hq
    go_wp2
    go_end0
    exact ⟨rfl, v, HR.out, kept_none HK.out, Moved.refl _ _⟩

theorem wnum2_any (b : Nat) (v : Value) (lim : Int) (l : List UInt8) (er : Int) (n : Int) (w : World) (h : WrAt w b v lim l er)
    (h0 : 0 ≤ lim) (h1 : lim ≤ 9223372036854775807) (hl : l.length + 8 ≤ 140737488355328) (hi : n ≤ 9223372036854775807) :
    Calls Try.prog 57 #[.pointer (some ⟨b, 0, none⟩), .int .i64 n, .int .i64 2] w fun e w' => e = .returned (.tuple #[]) ∧ ∃ v', WrAt w' b v' lim (wL lim l er 2 n) (wE lim l er 2 n) ∧ Kept b v.ownBlock w w' ∧ Moved w v v' := by
  unfold wL wE inR
  by_cases hn : 0 ≤ n ∧ n < 65536
  · have e : decide (0 ≤ n ∧ n < ((256 ^ 2 : Nat) : Int)) = true := by simp; omega
    rw [e]
    obtain ⟨m, rfl⟩ : ∃ m : Nat, n = m := ⟨n.toNat, by omega⟩
    by_cases hd : adm lim l.length er true 2 = 0
    · have := wnum2_yes b v lim l er m w h h0 h1 hl (by omega) hd
      simpa [hd] using this
    · have := wnum2_no b v lim l er m w h h0 h1 hl (by omega) _ rfl hd
      simpa [hd] using this
  · have e : decide (0 ≤ n ∧ n < ((256 ^ 2 : Nat) : Int)) = false := by simp; omega
    rw [e]
    have hd : ¬ adm lim l.length er false 2 = 0 := by unfold adm; split <;> simp_all
    have := wnum2_out b v lim l er n w h h0 h1 hl hi (by omega) _ rfl
    simpa [hd] using this

set_option maxRecDepth 100000 in
set_option maxHeartbeats 800000 in
theorem wnum4_yes (b : Nat) (v : Value) (lim : Int) (l : List UInt8) (er : Int) (m : Nat) (w : World) (h : WrAt w b v lim l er)
    (h0 : 0 ≤ lim) (h1 : lim ≤ 9223372036854775807) (hl : l.length + 8 ≤ 140737488355328) (n1 : m < 4294967296) (hd : adm lim l.length er true 4 = 0) :
    Calls Try.prog 57 #[.pointer (some ⟨b, 0, none⟩), .int .i64 m, .int .i64 4] w fun e w' => e = .returned (.tuple #[]) ∧ ∃ v', WrAt w' b v' lim (l ++ be 4 m) 0 ∧ Kept b v.ownBlock w w' ∧ Moved w v v' := by
  have hn : ((m : Int) / 4294967296 == 0) = true := by simp; omega
  have ha := admits_any b v lim l er true 4 w h h0 h1 (by omega)
  have hdd : decide (adm lim l.length er true 4 = 0) = true := by simpa using hd
  rw [hdd, hd] at ha
  have HA := hid ha
  have HL := hid hl
  have hm0 : (0 : Int) ≤ (m : Int) := Int.natCast_nonneg _
  have hm1 : (m : Int) ≤ 4294967296 := by omega
  have HM : Hid (m < 18446744073709551616) := by unfold Hid; omega
  clear ha h hd hdd hl n1 h0 h1
  go_enter Try.func57, Try.ntmps57
  go_wp2_with fail
  refine HA.out.mono ?_
  rintro e w1 ⟨rfl, hr, hk⟩
  have HR := hid hr
  have HK := hid hk
  clear hr hk hn
  go_wp2_with fail
  refine (put_any b v lim l 0 m 4 w1 HR.out (by omega) HM.out HL.out).mono ?_
  rintro e w2 ⟨rfl, v', hv, hk2, hm⟩
  have HV := hid hv
  have HK2 := hid (And.intro hk2 hm)
  clear hv hk2 hm
  go_wp2
  go_end0
  exact ⟨rfl, v', HV.out, (kept_none HK.out).trans HK2.out.1 (.inl rfl), (Moved.refl w v).trans HK2.out.2 HK.out.size⟩

set_option maxRecDepth 100000 in
set_option maxHeartbeats 800000 in
theorem wnum4_no (b : Nat) (v : Value) (lim : Int) (l : List UInt8) (er : Int) (m : Nat) (w : World) (h : WrAt w b v lim l er)
    (h0 : 0 ≤ lim) (h1 : lim ≤ 9223372036854775807) (hl : l.length + 8 ≤ 140737488355328) (n1 : m < 4294967296) (E : Int) (hE : adm lim l.length er true 4 = E) (hd : E ≠ 0) :
    Calls Try.prog 57 #[.pointer (some ⟨b, 0, none⟩), .int .i64 m, .int .i64 4] w fun e w' => e = .returned (.tuple #[]) ∧ ∃ v', WrAt w' b v' lim l E ∧ Kept b v.ownBlock w w' ∧ Moved w v v' := by
  have hn : ((m : Int) / 4294967296 == 0) = true := by simp; omega
  have ha := admits_any b v lim l er true 4 w h h0 h1 (by omega)
  have hdd : decide (E = 0) = false := by simpa using hd
  rw [hE, hdd] at ha
  have HA := hid ha
  have hm0 : (0 : Int) ≤ (m : Int) := Int.natCast_nonneg _
  have hm1 : (m : Int) ≤ 4294967296 := by omega
  clear ha h hE hd hdd hl n1 h0 h1
  go_enter Try.func57, Try.ntmps57
  go_wp2_with fail
  refine HA.out.mono ?_
  rintro e w1 ⟨rfl, hr, hk⟩
  have HR := hid hr
  have HK := hid hk
  clear hr hk hn
  go_wp2
  go_end0
  exact ⟨rfl, v, HR.out, kept_none HK.out, Moved.refl _ _⟩

set_option maxRecDepth 100000 in
set_option maxHeartbeats 800000 in
theorem wnum4_out (b : Nat) (v : Value) (lim : Int) (l : List UInt8) (er : Int) (n : Int) (w : World) (h : WrAt w b v lim l er)
    (h0 : 0 ≤ lim) (h1 : lim ≤ 9223372036854775807) (hl : l.length + 8 ≤ 140737488355328) (hi : n ≤ 9223372036854775807) (hn : n < 0 ∨ 4294967296 ≤ n) (E : Int) (hE : adm lim l.length er false 4 = E) :
    Calls Try.prog 57 #[.pointer (some ⟨b, 0, none⟩), .int .i64 n, .int .i64 4] w fun e w' => e = .returned (.tuple #[]) ∧ ∃ v', WrAt w' b v' lim l E ∧ Kept b v.ownBlock w w' ∧ Moved w v v' := by
  have ha := admits_any b v lim l er false 4 w h h0 h1 (by omega)
  have hd : ¬ E = 0 := by rw [← hE]; unfold adm; split <;> simp_all
  have hdd : decide (E = 0) = false := by simpa using hd
  rw [hE, hdd] at ha
  have HA := hid ha
  clear ha h hd hdd hE hl h0 h1
  rcases hn with hn | hn
  · go_enter Try.func57, Try.ntmps57
    go_wp2_with fail
    refine HA.out.mono ?_
    rintro e w1 ⟨rfl, hr, hk⟩
    have HR := hid hr
    have HK := hid hk
    clear hr hk
    go_wp2
    go_end0
    exact ⟨rfl, v, HR.out, kept_none HK.out, Moved.refl _ _⟩
  · have hq : (n / 4294967296 == 0) = false := by simp; omega
    have hn0 : 0 ≤ n := by omega
    clear hn
    go_enter Try.func57, Try.ntmps57
    go_wp2_with fail
    refine HA.out.mono ?_
    rintro e w1 ⟨rfl, hr, hk⟩
    have HR := hid hr
    have HK := hid hk
    clear hr hk hq
    go_wp2
    go_end0
    exact ⟨rfl, v, HR.out, kept_none HK.out, Moved.refl _ _⟩

theorem wnum4_any (b : Nat) (v : Value) (lim : Int) (l : List UInt8) (er : Int) (n : Int) (w : World) (h : WrAt w b v lim l er)
    (h0 : 0 ≤ lim) (h1 : lim ≤ 9223372036854775807) (hl : l.length + 8 ≤ 140737488355328) (hi : n ≤ 9223372036854775807) :
    Calls Try.prog 57 #[.pointer (some ⟨b, 0, none⟩), .int .i64 n, .int .i64 4] w fun e w' => e = .returned (.tuple #[]) ∧ ∃ v', WrAt w' b v' lim (wL lim l er 4 n) (wE lim l er 4 n) ∧ Kept b v.ownBlock w w' ∧ Moved w v v' := by
  unfold wL wE inR
  by_cases hn : 0 ≤ n ∧ n < 4294967296
  · have e : decide (0 ≤ n ∧ n < ((256 ^ 4 : Nat) : Int)) = true := by simp; omega
    rw [e]
    obtain ⟨m, rfl⟩ : ∃ m : Nat, n = m := ⟨n.toNat, by omega⟩
    by_cases hd : adm lim l.length er true 4 = 0
    · have := wnum4_yes b v lim l er m w h h0 h1 hl (by omega) hd
      simpa [hd] using this
    · have := wnum4_no b v lim l er m w h h0 h1 hl (by omega) _ rfl hd
      simpa [hd] using this
  · have e : decide (0 ≤ n ∧ n < ((256 ^ 4 : Nat) : Int)) = false := by simp; omega
    rw [e]
    have hd : ¬ adm lim l.length er false 4 = 0 := by unfold adm; split <;> simp_all
    have := wnum4_out b v lim l er n w h h0 h1 hl hi (by omega) _ rfl
    simpa [hd] using this

theorem wnum1_nil (n : Int) (w : World) : Calls Try.prog 57 #[.pointer none, .int .i64 n, .int .i64 1] w fun e w' => e = .returned (.tuple #[]) ∧ w' = w := by
  by_cases hn : 0 ≤ n
  · go_enter Try.func57, Try.ntmps57
    go_wp2_with (go_at_call 62; refine (admits_nil _ _ _).mono ?_; rintro e w1 ⟨rfl, rfl⟩)
    go_end0
    exact ⟨rfl, rfl⟩
  · go_enter Try.func57, Try.ntmps57
    go_wp2_with (go_at_call 62; refine (admits_nil _ _ _).mono ?_; rintro e w1 ⟨rfl, rfl⟩)
    go_end0
    exact ⟨rfl, rfl⟩

theorem wnum2_nil (n : Int) (w : World) : Calls Try.prog 57 #[.pointer none, .int .i64 n, .int .i64 2] w fun e w' => e = .returned (.tuple #[]) ∧ w' = w := by
  by_cases hn : 0 ≤ n
  · go_enter Try.func57, Try.ntmps57
    go_wp2_with (go_at_call 62; refine (admits_nil _ _ _).mono ?_; rintro e w1 ⟨rfl, rfl⟩)
    go_end0
    exact ⟨rfl, rfl⟩
  · go_enter Try.func57, Try.ntmps57
    go_wp2_with (go_at_call 62; refine (admits_nil _ _ _).mono ?_; rintro e w1 ⟨rfl, rfl⟩)
    go_end0
    exact ⟨rfl, rfl⟩

theorem wnum4_nil (n : Int) (w : World) : Calls Try.prog 57 #[.pointer none, .int .i64 n, .int .i64 4] w fun e w' => e = .returned (.tuple #[]) ∧ w' = w := by
  by_cases hn : 0 ≤ n
  · go_enter Try.func57, Try.ntmps57
    go_wp2_with (go_at_call 62; refine (admits_nil _ _ _).mono ?_; rintro e w1 ⟨rfl, rfl⟩)
    go_end0
    exact ⟨rfl, rfl⟩
  · go_enter Try.func57, Try.ntmps57
    go_wp2_with (go_at_call 62; refine (admits_nil _ _ _).mono ?_; rintro e w1 ⟨rfl, rfl⟩)
    go_end0
    exact ⟨rfl, rfl⟩

set_option maxHeartbeats 400000 in
theorem wbyte_any (b : Nat) (v : Value) (lim : Int) (l : List UInt8) (er : Int) (n : Int) (w : World) (h : WrAt w b v lim l er)
    (h0 : 0 ≤ lim) (h1 : lim ≤ 9223372036854775807) (hl : l.length + 8 ≤ 140737488355328) (hi : n ≤ 9223372036854775807) :
    Calls Try.prog 27 #[.pointer (some ⟨b, 0, none⟩), .int .i64 n] w fun e w' => e = .returned (.tuple #[]) ∧ ∃ v', WrAt w' b v' lim (wL lim l er 1 n) (wE lim l er 1 n) ∧ Kept b v.ownBlock w w' ∧ Moved w v v' := by
  have hc := hid (wnum1_any b v lim l er n w h h0 h1 hl hi)
  clear h
  go_enter Try.func27, Try.ntmps27
  go_wp2_with fail
  refine hc.out.mono ?_
  rintro e w1 ⟨rfl, hr⟩
  have HR := hid hr
  clear hr
  go_wp2
  go_end0
  exact ⟨rfl, HR.out⟩

theorem wbyte_nil (n : Int) (w : World) : Calls Try.prog 27 #[.pointer none, .int .i64 n] w fun e w' => e = .returned (.tuple #[]) ∧ w' = w := by
  go_enter Try.func27, Try.ntmps27
  go_wp2_with (go_at_call 57; refine (wnum1_nil _ _).mono ?_; rintro e w1 ⟨rfl, rfl⟩)
  go_end0
  exact ⟨rfl, rfl⟩

set_option maxHeartbeats 400000 in
theorem wword_any (b : Nat) (v : Value) (lim : Int) (l : List UInt8) (er : Int) (n : Int) (w : World) (h : WrAt w b v lim l er)
    (h0 : 0 ≤ lim) (h1 : lim ≤ 9223372036854775807) (hl : l.length + 8 ≤ 140737488355328) (hi : n ≤ 9223372036854775807) :
    Calls Try.prog 28 #[.pointer (some ⟨b, 0, none⟩), .int .i64 n] w fun e w' => e = .returned (.tuple #[]) ∧ ∃ v', WrAt w' b v' lim (wL lim l er 2 n) (wE lim l er 2 n) ∧ Kept b v.ownBlock w w' ∧ Moved w v v' := by
  have hc := hid (wnum2_any b v lim l er n w h h0 h1 hl hi)
  clear h
  go_enter Try.func28, Try.ntmps28
  go_wp2_with fail
  refine hc.out.mono ?_
  rintro e w1 ⟨rfl, hr⟩
  have HR := hid hr
  clear hr
  go_wp2
  go_end0
  exact ⟨rfl, HR.out⟩

theorem wword_nil (n : Int) (w : World) : Calls Try.prog 28 #[.pointer none, .int .i64 n] w fun e w' => e = .returned (.tuple #[]) ∧ w' = w := by
  go_enter Try.func28, Try.ntmps28
  go_wp2_with (go_at_call 57; refine (wnum2_nil _ _).mono ?_; rintro e w1 ⟨rfl, rfl⟩)
  go_end0
  exact ⟨rfl, rfl⟩

end Go.Proofs.Ytchlmcpnjpllnaa

/- The document's writer (layer 1's reference): a number as bytes. -/
namespace Go.Proofs.Ytchlmcpnjpllnaa
open Go.RowKit

theorem made_zero (n : Nat) : madeCells #[Value.int .u8 0] n = (List.replicate n (Value.int .u8 0)).toArray := by
  apply Array.ext'
  simp [madeCells]
  apply List.ext_getElem?
  intro i
  by_cases h : i < n
  · simp [h, Nat.mod_one]
  · simp [h]

/-- The cells of a number that is being written from its end. -/
def bigCells (k : Nat) (T : List UInt8) : Array Value := (List.replicate k (Value.int .u8 0) ++ bC T).toArray
theorem bigCells_set (j : Nat) (T : List UInt8) (c : UInt8) : (bigCells (j + 1) T).setIfInBounds j (.int .u8 (c.toNat : Int)) = bigCells j (c :: T) := by
  apply Array.ext'
  simp only [bigCells, Array.toList_setIfInBounds]
  rw [List.replicate_succ', List.append_assoc, List.set_append_right _ _ (by simp)]
  simp [bC]

set_option maxRecDepth 100000 in
set_option maxHeartbeats 1600000 in
theorem big_any (n s : Nat) (w : World) (hs : s ≤ 8) (hn : n < 18446744073709551616) :
    Calls Try.prog 59 #[.int .u64 n, .int .i64 s] w fun e w' => e = .returned (.slice (some ⟨w.heap.size, 0, none⟩) s s) ∧ w'.heap[w.heap.size]? = some (.cells (bC (be s n)).toArray 5 (0, 0)) ∧ Below w.heap.size w w' := by
  obtain ⟨i0, hi0, hz0, hz1, hz2⟩ := info_parts Try.info5
  have hmk : ∀ u : World, (Instr.makeSlice 57 (.int .i64 (s : Int)) (.int .i64 (s : Int))).run Try.prog u = .ok (.slice (some ⟨u.heap.size, 0, none⟩) s s) (u.alloc (.cells (bigCells s []) 5)) := fun u => by
    have h := run_make (P := Try.prog) u 57 5 i0 (.int .u8 0) Try.underlying57 hi0 hz0 .i64 .i64 (s : Int) (s : Int) (by omega) (Int.le_refl _) (by rw [hz2]; omega) (by omega)
    rw [hz1] at h
    simp only [Int.toNat_natCast, Nat.mul_one] at h
    rw [h]
    simp [Value.cells, made_zero, bigCells, bC]
  clear hi0 hz0 hz1 hz2
  have HN := hid hn
  clear hn
  go_enter Try.func59, Try.ntmps59
  go_wp2
  go_loopw [0, 6] (fun v i wr => ∃ (k m : Nat) (T : List UInt8), k ≤ s ∧ i = .int .i64 ((k : Int) - 1) ∧ v = .int .u64 (m : Int) ∧ m < 18446744073709551616 ∧ be k m ++ T = be s n ∧ wr.heap[w.heap.size]? = some (.cells (bigCells k T) 5 (0, 0)) ∧ Below w.heap.size w wr)
    (fun _ i _ => (intOf i + 1).toNat)
  case atStart => exact ⟨s, n, [], Nat.le_refl _, rfl, rfl, HN.out, by simp, heap_alloc_new w _, (Below.refl _ _).alloc (Nat.le_refl _) _⟩
  case round =>
    obtain ⟨k, m, T, hk, rfl, rfl, hm, hT, hblk, hbel⟩ := hrel
    have HT := hid hT
    have HR := hid (And.intro hblk hbel)
    clear hT hblk hbel
    cases k with
    | zero =>
      go_wp2
      go_ret
      refine ⟨rfl, ?_, HR.out.2⟩
      have e : T = be s n := by simpa [be] using HT.out
      rw [← e]
      simpa [bigCells] using HR.out.1
    | succ j =>
      have ej : (((j + 1 : Nat) : Int) - 1) = (j : Int) := by omega
      rw [ej]
      clear ej
      have hj0 : (0 : Int) ≤ (j : Int) := Int.natCast_nonneg _
      have hjs : (j : Int) < (s : Int) := by omega
      have hm0 : (0 : Int) ≤ (m : Int) := Int.natCast_nonneg _
      have cG : wr.cell? ⟨w.heap.size, j, none⟩ = some (.int .u8 0) := by
        have := cell_of_blk HR.out.1 j (by simp [bigCells]; omega)
        rw [this]
        simp [bigCells]
      have fG := free_of_blk HR.out.1 j
      go_wp2
      go_roundw
      case rel =>
        have hmod : (m : Int) % 256 = ((UInt8.ofNat m).toNat : Int) := by
          have e : (UInt8.ofNat m).toNat = m % 256 := by simp
          rw [e]; omega
        refine ⟨j, m / 256, UInt8.ofNat m :: T, by omega, rfl, ?_, by omega, ?_, ?_, ?_⟩
        · have e : (m : Int) / 256 = ((m / 256 : Nat) : Int) := by omega
          rw [e]
        · have := HT.out
          rw [be_snoc, List.append_assoc] at this
          exact this
        · have := HR.out.1
          simp [World.setCell, Array.getElem?_modify, this]
          rw [hmod, bigCells_set]
        · exact HR.out.2.setCell (Nat.le_refl _) _
      case measure => simp [intOf]

end Go.Proofs.Ytchlmcpnjpllnaa

/- The contracts of the document's writer (layer 1's reference). -/
namespace Go.Proofs.Ytchlmcpnjpllnaa
open Go.RowKit

/-- The document's writer at block c. -/
structure MwAt (w : World) (c : Nat) (v : Value) (lim : Int) (l : List UInt8) (er : Int) : Prop where
  blk : w.heap[c]? = some (.cells #[v, .int .i64 lim, .int .i64 er] 68 (0, 0))
  own : w.ownsRow (c + 1) 5 1 v l.length (bC l)

section
variable {w : World} {c : Nat} {v : Value} {lim : Int} {l : List UInt8} {er : Int}
theorem MwAt.lt (h : MwAt w c v lim l er) : c < w.heap.size := lt_of_blk h.blk
theorem MwAt.c0 (h : MwAt w c v lim l er) : w.cell? ⟨c, 0, none⟩ = some v := cell_of_blk h.blk 0 (by simp)
theorem MwAt.c1 (h : MwAt w c v lim l er) : w.cell? ⟨c, 1, none⟩ = some (.int .i64 lim) := cell_of_blk h.blk 1 (by simp)
theorem MwAt.c2 (h : MwAt w c v lim l er) : w.cell? ⟨c, 2, none⟩ = some (.int .i64 er) := cell_of_blk h.blk 2 (by simp)
theorem MwAt.fr (h : MwAt w c v lim l er) (j : Nat) : w.frozen? ⟨c, j, none⟩ = false := free_of_blk h.blk j
theorem MwAt.alloc (h : MwAt w c v lim l er) (o : Obj) : MwAt (w.alloc o) c v lim l er := ⟨(Below.heap_alloc w o c h.lt).trans h.blk, h.own.alloc o⟩
theorem MwAt.drew (h : MwAt w c v lim l er) : MwAt w.drew c v lim l er := ⟨h.blk, ownsRow_of_heap rfl h.own⟩
theorem MwAt.err (h : MwAt w c v lim l er) (u : Int) : MwAt (w.setCell ⟨c, 2, none⟩ (.int .i64 u)) c v lim l u :=
  ⟨by have := h.blk; simp [World.setCell, Array.getElem?_modify, this], ownsRow_setCell_below h.own (by show c < c + 1; omega) _⟩
theorem MwAt.form (h : MwAt w c v lim l er) : ∃ a cap, v = .slice a l.length cap := by
  rcases h.own.2 with ⟨hv, h0⟩ | ⟨g, cap, cur, hv, _⟩
  · exact ⟨none, 0, by rw [hv, h0]⟩
  · exact ⟨_, _, hv⟩
/-- Below the writer and its row nothing else has turned. -/
theorem MwAt.above {w' : World} (h : MwAt w c v lim l er) (hb : Below w.heap.size w w') : MwAt w' c v lim l er := by
  refine ⟨by rw [hb.block c h.lt]; exact h.blk, h.own.1, ?_⟩
  rcases h.own.2 with h2 | ⟨g, cap, cur, hv, hg, hh, r⟩
  · exact .inl h2
  · exact .inr ⟨g, cap, cur, hv, hg, by rw [hb.block g (lt_of_blk hh)]; exact hh, r⟩
end

theorem mnew_any (n : Int) (w : World) :
    Calls Try.prog 32 #[.int .i64 n] w fun e w' => e = .returned (.pointer (some ⟨w.heap.size, 0, none⟩)) ∧ w' = w.alloc (.cells #[.slice none 0 0, .int .i64 (max n 0), .int .i64 0] 68) := by
  by_cases hn : n < 0
  · have e : max n 0 = 0 := by omega
    rw [e]
    clear e
    go_enter Try.func32, Try.ntmps32
    go_wp2
    go_ret
    exact ⟨rfl, rfl⟩
  · have e : max n 0 = n := by omega
    rw [e]
    clear e
    go_enter Try.func32, Try.ntmps32
    go_wp2
    go_ret
    exact ⟨rfl, rfl⟩

theorem mdone_ok (c : Nat) (v : Value) (lim : Int) (l : List UInt8) (w : World) (h : MwAt w c v lim l 0) :
    Calls Try.prog 43 #[.pointer (some ⟨c, 0, none⟩)] w fun e w' => e = .returned (.tuple #[.string ⟨l.toArray⟩, .int .i64 0]) ∧ w' = w := by
  have c0 := h.c0
  have c2 := h.c2
  rcases h.own.2 with ⟨rfl, h0⟩ | ⟨g, cap, cur, rfl, hg, hh, hnc, hcp, hcs, htake⟩
  · obtain rfl := List.eq_nil_of_length_eq_zero h0
    have hcv : ∀ w, (convert 57 9 (.slice none 0 0)).run Try.prog w = .ok (.string ⟨#[]⟩) w := fun w => by
      rw [run_convert_bytes_string w 57 9 5 none 0 0 Try.underlying57 Try.underlying5 Try.underlying9]; rfl
    clear h
    go_enter Try.func43, Try.ntmps43
    go_wp2
    go_ret2
    exact ⟨rfl, rfl⟩
  · have hcv := run_convert_bytes_back (P := Try.prog) w 57 9 5 ⟨g, 0, none⟩ cap l Try.underlying57 Try.underlying5 Try.underlying9 (fun j hj => h.own.cells (g := g) rfl j _ (by simp [bC, hj]))
    clear h
    go_enter Try.func43, Try.ntmps43
    go_wp2
    go_ret2
    exact ⟨rfl, rfl⟩

theorem mdone_err (c : Nat) (v : Value) (lim : Int) (l : List UInt8) (er : Int) (w : World) (h : MwAt w c v lim l er) (he : (er != 0) = true) :
    Calls Try.prog 43 #[.pointer (some ⟨c, 0, none⟩)] w fun e w' => e = .returned (.tuple #[.string ⟨#[]⟩, .int .i64 er]) ∧ w' = w.drew := by
  have c2 := h.c2
  clear h
  go_enter Try.func43, Try.ntmps43
  go_wp2
  go_region
  all_goals (try go_wp2)
  all_goals go_ret2
  exact ⟨rfl, rfl⟩

set_option maxHeartbeats 800000 in
theorem mput_bad (c : Nat) (v : Value) (lim : Int) (l : List UInt8) (er : Int) (size : Int) (w : World) (h : MwAt w c v lim l er) :
    Calls Try.prog 58 #[.pointer (some ⟨c, 0, none⟩), .slice none 0 0, .bool false] w fun e w' => e = .returned (.tuple #[]) ∧ MwAt w' c v lim l (adm lim l.length er false size) ∧ Kept c none w w' := by
  have c2 := h.c2
  have f2 := h.fr 2
  have HH := hid h
  clear h
  by_cases he : er = 0
  · subst he
    rw [adm_bad]
    go_enter Try.func58, Try.ntmps58
    go_wp2
    first | go_end0 | refine bodyPost_ret (results_none rfl _ _ _) rfl ?_
    exact ⟨rfl, HH.out.err 4, (Kept.refl _ _ _).setCell _ _⟩
  · have hne : (er != 0) = true := by simpa using he
    rw [adm_er _ _ _ _ _ he]
    clear he
    go_enter Try.func58, Try.ntmps58
    go_wp2
    first | go_end0 | refine bodyPost_ret (results_none rfl _ _ _) rfl ?_
    exact ⟨rfl, HH.out, Kept.refl _ _ _⟩

set_option maxHeartbeats 800000 in
theorem mput_er (c : Nat) (v : Value) (lim : Int) (l : List UInt8) (er : Int) (x : Value) (w : World) (h : MwAt w c v lim l er) (he : (er != 0) = true) :
    Calls Try.prog 58 #[.pointer (some ⟨c, 0, none⟩), x, .bool true] w fun e w' => e = .returned (.tuple #[]) ∧ w' = w := by
  have c2 := h.c2
  clear h
  go_enter Try.func58, Try.ntmps58
  go_wp2
  first | go_end0 | refine bodyPost_ret (results_none rfl _ _ _) rfl ?_
  exact ⟨rfl, rfl⟩

set_option maxHeartbeats 800000 in
theorem mput_long (c : Nat) (a : Option Addr) (n cap : Nat) (lim : Int) (g m cm : Nat) (w : World) (c0 : w.cell? ⟨c, 0, none⟩ = some (.slice a n cap)) (c1 : w.cell? ⟨c, 1, none⟩ = some (.int .i64 lim)) (c2 : w.cell? ⟨c, 2, none⟩ = some (.int .i64 0)) (f2 : w.frozen? ⟨c, 2, none⟩ = false)
    (h0 : 0 ≤ lim) (h1 : lim ≤ 9223372036854775807) (hl : n ≤ 140737488355328) (hs : lim - n < m) :
    Calls Try.prog 58 #[.pointer (some ⟨c, 0, none⟩), .slice (some ⟨g, 0, none⟩) m cm, .bool true] w fun e w' => e = .returned (.tuple #[]) ∧ w' = (w.setCell ⟨c, 2, none⟩ (.int .i64 3)).drew := by
  go_enter Try.func58, Try.ntmps58
  go_wp2
  go_region
  all_goals (try go_wp2)
  all_goals (first | go_end0 | refine bodyPost_ret (results_none rfl _ _ _) rfl ?_)
  exact ⟨rfl, rfl⟩

theorem MwAt.bytes {w : World} {c : Nat} {v : Value} {lim : Int} {er : Int} (h : w.heap[c]? = some (.cells #[v, .int .i64 lim, .int .i64 er] 68 (0, 0))) {v' : Value} {l' : List UInt8} (ho : w.ownsRow (c + 1) 5 1 v' l'.length (bC l')) :
    MwAt (w.setCell ⟨c, 0, none⟩ v') c v' lim l' er :=
  ⟨by simp [World.setCell, Array.getElem?_modify, h], ownsRow_setCell_below ho (by show c < c + 1; omega) _⟩

theorem mput_step {w1 w2 : World} {c : Nat} {v v' : Value} {lim : Int} {L C : List UInt8} {er : Int} (hR : MwAt w1 c v lim L er)
    (hown : w2.ownsRow (c + 1) 5 1 v' (L.length + C.length) (bC L ++ bC C)) (hgrow : w1.grownBy w2 v.ownBlock) (hat : v'.ownBlock = v.ownBlock ∨ v'.ownBlock = some w1.heap.size) :
    MwAt (w2.setCell ⟨c, 0, none⟩ v') c v' lim (L ++ C) er ∧ Kept c v.ownBlock w1 (w2.setCell ⟨c, 0, none⟩ v') ∧ Moved w1 v v' := by
  have hbv : some c ≠ v.ownBlock := fun e => by have := (hR.own.lt c e.symm).1; omega
  have hb1 : w2.heap[c]? = some (.cells #[v, .int .i64 lim, .int .i64 er] 68 (0, 0)) := by
    rw [hgrow.block c hR.lt hbv]
    exact hR.blk
  refine ⟨MwAt.bytes hb1 ?_, ?_, ?_⟩
  · rw [bC_app, List.length_append]; exact hown
  · exact ((Kept.refl c v.ownBlock w1).grown hgrow (.inl rfl)).setCell _ _
  · rcases hat with h | h
    · exact .inl h
    · exact .inr ⟨_, h, Nat.le_refl _⟩

set_option maxRecDepth 100000 in
set_option maxHeartbeats 1600000 in
theorem mput_ok (c : Nat) (v : Value) (lim : Int) (l : List UInt8) (g cm : Nat) (xs : List UInt8) (w : World) (h : MwAt w c v lim l 0)
    (h0 : 0 ≤ lim) (h1 : lim ≤ 9223372036854775807) (hl : l.length + xs.length ≤ 140737488355328) (hs : (xs.length : Int) ≤ lim - l.length)
    (hsrc : ∀ j u, (bC xs)[j]? = some u → w.cell? ⟨g, j, none⟩ = some u) :
    Calls Try.prog 58 #[.pointer (some ⟨c, 0, none⟩), .slice (some ⟨g, 0, none⟩) xs.length cm, .bool true] w fun e w' => e = .returned (.tuple #[]) ∧ ∃ v', MwAt w' c v' lim (l ++ xs) 0 ∧ Kept c v.ownBlock w w' ∧ Moved w v v' := by
  obtain ⟨i0, hi0, hz0, hz1, hz2⟩ := info_parts Try.info5
  obtain ⟨av, cap, rfl⟩ := h.form
  have c0 := h.c0
  have c1 := h.c1
  have c2 := h.c2
  have f0 := h.fr 0
  have hlt := h.lt
  have ho := h.own
  have HH := hid h
  have HS := hid hsrc
  clear h hsrc
  have hbv : some c ≠ (Value.slice av l.length cap).ownBlock := fun e => by have := (ho.lt c e.symm).1; omega
  go_enter Try.func58, Try.ntmps58
  go_wp2
  go_region
  go_wp2_with (at_builtin; refine wpList_append_own_at _ rfl _ _ 57 rfl (c + 1) 5 i0 (.int .u8 0) 1 1 Try.underlying57 hi0 hz0 hz1 hz2 rfl (by decide) _ l.length (bC l) rfl (ownsRow_of_heap rfl ho) ⟨g, 0, none⟩ xs.length cm (bC xs) rfl (by rw [bC_len, Nat.mul_one]) ?cells ?one (by unfold maxLen; omega) (by omega) (by exact hlt) ?_)
  case cells =>
    intro j u hj
    rw [Addr.add_lit, Nat.zero_add]
    exact HS.out j u hj
  case one =>
    intro u hu
    obtain ⟨_, _, rfl⟩ := List.mem_map.1 hu
    rfl
  · intro v3 w3 hown3 hgrow _ hat
    have HT := hid (mput_step HH.out.drew hown3 hgrow hat)
    have cz : w3.cell? ⟨c, 0, none⟩ = some (.slice av l.length cap) := (hgrow.cell_far ⟨c, 0, none⟩ hlt hbv).trans c0
    have fz : w3.frozen? ⟨c, 0, none⟩ = false := (hgrow.frozen_far ⟨c, 0, none⟩ hlt hbv).trans f0
    obtain ⟨a3, n3, cap3, hv3⟩ : ∃ a3 n3 cap3, v3 = .slice a3 n3 cap3 := by
      rcases hown3.2 with ⟨hv, _⟩ | ⟨g, cap, cur, hv, _⟩
      · exact ⟨_, _, _, hv⟩
      · exact ⟨_, _, _, hv⟩
    rw [hv3] at HT ⊢
    clear hown3 hgrow hat ho hv3
    go_wp2
    first | go_end0 | refine bodyPost_ret (results_none rfl _ _ _) rfl ?_
    exact ⟨rfl, _, HT.out.1, ⟨HT.out.2.1.os, HT.out.2.1.tape, HT.out.2.1.output, HT.out.2.1.size, HT.out.2.1.block⟩, HT.out.2.2⟩

theorem mput_any (c : Nat) (v : Value) (lim : Int) (l : List UInt8) (er : Int) (g cm : Nat) (xs : List UInt8) (w : World) (h : MwAt w c v lim l er)
    (h0 : 0 ≤ lim) (h1 : lim ≤ 9223372036854775807) (hl : l.length + xs.length ≤ 140737488355328)
    (hsrc : ∀ j u, (bC xs)[j]? = some u → w.cell? ⟨g, j, none⟩ = some u) :
    Calls Try.prog 58 #[.pointer (some ⟨c, 0, none⟩), .slice (some ⟨g, 0, none⟩) xs.length cm, .bool true] w fun e w' => e = .returned (.tuple #[]) ∧
      ∃ v', MwAt w' c v' lim (if adm lim l.length er true xs.length = 0 then l ++ xs else l) (adm lim l.length er true xs.length) ∧ Kept c v.ownBlock w w' ∧ Moved w v v' := by
  by_cases he : er = 0
  · subst he
    by_cases hs : lim - l.length < xs.length
    · rw [adm_long _ _ _ hs, if_neg (by decide)]
      obtain ⟨a, cap, hv⟩ := h.form
      exact (mput_long c a l.length cap lim g xs.length cm w (hv ▸ h.c0) h.c1 h.c2 (h.fr 2) h0 h1 (by omega) hs).mono fun e w' ⟨e1, e2⟩ => ⟨e1, v, by rw [e2]; exact (h.err 3).drew, by rw [e2]; exact ((Kept.refl _ _ _).setCell _ _).drew, Moved.refl _ _⟩
    · rw [adm_ok _ _ _ hs, if_pos rfl]
      exact mput_ok c v lim l g cm xs w h h0 h1 hl (by omega) hsrc
  · rw [adm_er _ _ _ _ _ he, if_neg he]
    exact (mput_er c v lim l er _ w h (by simpa using he)).mono fun e w' ⟨e1, e2⟩ => ⟨e1, v, by rw [e2]; exact h, by rw [e2]; exact Kept.refl _ _ _, Moved.refl _ _⟩

end Go.Proofs.Ytchlmcpnjpllnaa

/- The contracts of the document's writer: numbers, bits, texts, items. -/
namespace Go.Proofs.Ytchlmcpnjpllnaa
open Go.RowKit

theorem mput_len (c : Nat) (v : Value) (lim : Int) (l : List UInt8) (er : Int) (g cm : Nat) (xs : List UInt8) (m : Nat) (hm : xs.length = m) (w : World) (h : MwAt w c v lim l er)
    (h0 : 0 ≤ lim) (h1 : lim ≤ 9223372036854775807) (hl : l.length + m ≤ 140737488355328)
    (hsrc : ∀ j u, (bC xs)[j]? = some u → w.cell? ⟨g, j, none⟩ = some u) :
    Calls Try.prog 58 #[.pointer (some ⟨c, 0, none⟩), .slice (some ⟨g, 0, none⟩) m cm, .bool true] w fun e w' => e = .returned (.tuple #[]) ∧
      ∃ v', MwAt w' c v' lim (if adm lim l.length er true m = 0 then l ++ xs else l) (adm lim l.length er true m) ∧ Kept c v.ownBlock w w' ∧ Moved w v v' := by
  subst hm
  exact mput_any c v lim l er g cm xs w h h0 h1 hl hsrc

theorem cells_of_row {w : World} {g : Nat} {xs : List UInt8} (h : w.heap[g]? = some (.cells (bC xs).toArray 5 (0, 0))) : ∀ j u, (bC xs)[j]? = some u → w.cell? ⟨g, j, none⟩ = some u := by
  intro j u hj
  have hjl := (List.getElem?_eq_some_iff.1 hj).1
  rw [cell_of_blk h j (by simpa using hjl)]
  rw [← hj]
  simp [hjl]


set_option maxRecDepth 100000 in
set_option maxHeartbeats 1600000 in
theorem mnum_in (c : Nat) (v : Value) (lim : Int) (l : List UInt8) (er : Int) (n s : Nat) (hs : s ≤ 4) (w : World) (h : MwAt w c v lim l er)
    (h0 : 0 ≤ lim) (h1 : lim ≤ 9223372036854775807) (hl : l.length + 8 ≤ 140737488355328) (hn : n < 256 ^ s) :
    Calls Try.prog 33 #[.pointer (some ⟨c, 0, none⟩), .int .i64 n, .int .i64 s] w fun e w' => e = .returned (.tuple #[]) ∧ ∃ v', MwAt w' c v' lim (wL lim l er s n) (wE lim l er s n) ∧ Kept c v.ownBlock w w' ∧ Moved w v v' := by
  have hp : 256 ^ s ≤ 4294967296 := Nat.le_trans (Nat.pow_le_pow_right (by decide) hs) (by decide)
  have HH := hid h
  have HC := hid (big_any n s w (by omega) (by omega))
  have hr : inR s (n : Int) = true := by unfold inR; rw [decide_eq_true_iff]; exact ⟨Int.natCast_nonneg _, by exact_mod_cast hn⟩
  have HQ : Hid (∀ E L, (if adm lim l.length er true s = 0 then l ++ be s n else l) = L → adm lim l.length er true s = E → wL lim l er s n = L ∧ wE lim l er s n = E) := by
    intro E L e1 e2
    unfold wL wE
    rw [hr, Int.toNat_natCast]
    exact ⟨e1, e2⟩
  obtain ⟨L, hL⟩ : ∃ L, wL lim l er s n = L := ⟨_, rfl⟩
  obtain ⟨E, hE⟩ : ∃ E, wE lim l er s n = E := ⟨_, rfl⟩
  rw [hL, hE]
  have HLE := hid (And.intro hL hE)
  obtain ⟨q, hq⟩ : ∃ q, q = 256 ^ s := ⟨_, rfl⟩
  rw [← hq] at hn hp
  have HPQ := hid hq
  have hn0 : (0 : Int) ≤ (n : Int) := Int.natCast_nonneg _
  have hnq : (n : Int) < (q : Int) := by omega
  clear h hr hn hL hE hq
  go_enter Try.func33, Try.ntmps33
  go_wp2
  go_loop [6, 7] (fun p i => ∃ k : Nat, k ≤ s ∧ i = .int .i64 k ∧ p = .int .i64 ((256 ^ k : Nat) : Int)) (fun _ i => s - (intOf i).toNat)
  case atStart => exact ⟨0, Nat.zero_le _, rfl, rfl⟩
  case round =>
    obtain ⟨k, hk, rfl, rfl⟩ := hrel
    by_cases hlt : k < s
    · have hb : 256 ^ k ≤ 16777216 := Nat.le_trans (Nat.pow_le_pow_right (by decide) (show k ≤ 3 by omega)) (by decide)
      obtain ⟨p, hp2⟩ : ∃ p, p = 256 ^ k := ⟨_, rfl⟩
      rw [← hp2] at hb ⊢
      have HP2 := hid hp2
      clear hp2
      go_wp2
      go_round
      case rel => exact ⟨k + 1, by omega, by go_num, by rw [Nat.pow_succ, ← HP2.out]; simp⟩
      case measure => simp [intOf]; omega
    · have hks : k = s := by omega
      subst hks
      rw [← HPQ.out]
      clear hlt
      go_wp2_with fail
      refine HC.out.mono ?_
      rintro e w1 ⟨rfl, hb1, hbel⟩
      have HP := hid (mput_len c v lim l er w.heap.size k (be k n) k (be_len k n) w1 (HH.out.above hbel) h0 h1 (by omega) (cells_of_row hb1))
      have HK := hid (show Kept c v.ownBlock w w1 from ⟨hbel.os, hbel.tape, hbel.output, hbel.size, fun j hj _ _ => hbel.block j hj⟩)
      clear hb1 hbel
      go_wp2_with fail
      refine HP.out.mono ?_
      rintro e w2 ⟨rfl, v2, hx2, hk2, hm2⟩
      have hQ := HQ.out _ _ rfl rfl
      rw [← hQ.1, ← hQ.2, HLE.out.1, HLE.out.2] at hx2
      have H2 := hid (And.intro hx2 (And.intro (HK.out.trans hk2 (.inl rfl)) ((Moved.refl w v).trans hm2 HK.out.size)))
      clear hx2 hk2 hm2 hQ
      go_wp2
      go_end0
      exact ⟨rfl, v2, H2.out⟩

set_option maxRecDepth 100000 in
set_option maxHeartbeats 1600000 in
theorem mnum_out (c : Nat) (v : Value) (lim : Int) (l : List UInt8) (er : Int) (n : Int) (s : Nat) (hs : s ≤ 4) (w : World) (h : MwAt w c v lim l er) (hn : n < 0 ∨ ((256 ^ s : Nat) : Int) ≤ n) (E : Int) (hE : adm lim l.length er false s = E) :
    Calls Try.prog 33 #[.pointer (some ⟨c, 0, none⟩), .int .i64 n, .int .i64 s] w fun e w' => e = .returned (.tuple #[]) ∧ ∃ v', MwAt w' c v' lim l E ∧ Kept c v.ownBlock w w' ∧ Moved w v v' := by
  have hp : 256 ^ s ≤ 4294967296 := Nat.le_trans (Nat.pow_le_pow_right (by decide) hs) (by decide)
  have HC := hid (mput_bad c v lim l er s w h)
  rw [hE] at HC
  obtain ⟨q, hq⟩ : ∃ q, q = 256 ^ s := ⟨_, rfl⟩
  rw [← hq] at hn hp
  have HPQ := hid hq
  clear h hE hq
  rcases hn with hn | hn
  all_goals
    go_enter Try.func33, Try.ntmps33
    go_wp2
    go_loop [6, 7] (fun p i => ∃ k : Nat, k ≤ s ∧ i = .int .i64 k ∧ p = .int .i64 ((256 ^ k : Nat) : Int)) (fun _ i => s - (intOf i).toNat)
    case atStart => exact ⟨0, Nat.zero_le _, rfl, rfl⟩
    case round =>
      obtain ⟨k, hk, rfl, rfl⟩ := hrel
      by_cases hlt : k < s
      · have hb : 256 ^ k ≤ 16777216 := Nat.le_trans (Nat.pow_le_pow_right (by decide) (show k ≤ 3 by omega)) (by decide)
        obtain ⟨p, hp2⟩ : ∃ p, p = 256 ^ k := ⟨_, rfl⟩
        rw [← hp2] at hb ⊢
        have HP2 := hid hp2
        clear hp2
        go_wp2
        go_round
        case rel => exact ⟨k + 1, by omega, by go_num, by rw [Nat.pow_succ, ← HP2.out]; simp⟩
        case measure => simp [intOf]; omega
      · have hks : k = s := by omega
        subst hks
        rw [← HPQ.out]
        clear hlt
        go_wp2_with fail
        refine HC.out.mono ?_
        rintro e w1 ⟨rfl, hx1, hk1⟩
        have H1 := hid (And.intro hx1 (kept_none (r := v.ownBlock) hk1))
        clear hx1 hk1
        go_wp2
        first | go_end0 | refine bodyPost_ret (results_none rfl _ _ _) rfl ?_
        exact ⟨rfl, v, H1.out.1, H1.out.2, Moved.refl _ _⟩

theorem mnum_w (c : Nat) (v : Value) (lim : Int) (l : List UInt8) (er : Int) (n : Int) (s : Nat) (hs : s ≤ 4) (w : World) (h : MwAt w c v lim l er)
    (h0 : 0 ≤ lim) (h1 : lim ≤ 9223372036854775807) (hl : l.length + 8 ≤ 140737488355328) :
    Calls Try.prog 33 #[.pointer (some ⟨c, 0, none⟩), .int .i64 n, .int .i64 s] w fun e w' => e = .returned (.tuple #[]) ∧ ∃ v', MwAt w' c v' lim (wL lim l er s n) (wE lim l er s n) ∧ Kept c v.ownBlock w w' ∧ Moved w v v' := by
  by_cases hn : 0 ≤ n ∧ n < ((256 ^ s : Nat) : Int)
  · obtain ⟨m, rfl⟩ : ∃ m : Nat, n = m := ⟨n.toNat, by omega⟩
    exact mnum_in c v lim l er m s hs w h h0 h1 hl (by exact_mod_cast hn.2)
  · have hr : inR s n = false := by unfold inR; rw [decide_eq_false_iff_not]; exact hn
    have hd : ¬ adm lim l.length er false s = 0 := by unfold adm; split <;> simp_all
    have := mnum_out c v lim l er n s hs w h (by omega) _ rfl
    unfold wL wE
    rw [hr, if_neg hd]
    exact this

end Go.Proofs.Ytchlmcpnjpllnaa

/- What all families of texts share: one operation that is ready in a region that draws. -/
namespace Go.Proofs.Ytchlmcpnjpllnaa
open Go.RowKit

section
variable {P : Program} {ops : Array Oper} {o : Oper} {a : Act} {w : World} {K : Act → World → Prop} {Q : Exit → Act → World → Prop}
theorem wpOp_q {i : Nat} (hi : ops[i]? = some o) (hgd : o.guard = none) (h : ∀ K' : Act → World → Prop, (∀ a w, K a w → K' a w) → o.wp P a w K' Q) : wpOp P ops Q i K a w := by
  unfold Go.wpOp
  simp only [hi]
  have hw : Region.wanted o (yielded ops a.tmps) = true := by simp [Region.wanted, hgd]
  simp only [hw, if_true]
  exact .inl (h K (fun _ _ h => h))
end
end Go.Proofs.Ytchlmcpnjpllnaa

/- The document's bytes of a paper. -/
namespace Go.Proofs.Ytchlmcpnjpllnaa
open Go.RowKit

/-- The document's writer at block c, with room for lim, and l in it; nothing below c has turned since w0. -/
def TxAt (lim : Int) (c : Nat) (w0 w : World) (l : List UInt8) : Prop := (∃ v, MwAt w c v lim l 0) ∧ Below c w0 w
theorem wLx (lim : Int) (l : List UInt8) (s n : Nat) (hn : n < 256 ^ s) (hl : (l.length : Int) + s ≤ lim) : wL lim l 0 s (n : Int) = l ++ be s n ∧ wE lim l 0 s (n : Int) = 0 := by
  have h : adm lim l.length 0 (inR s (n : Int)) s = 0 := by
    have hi : inR s (n : Int) = true := by
      unfold inR
      exact decide_eq_true ⟨Int.natCast_nonneg _, by exact_mod_cast hn⟩
    rw [hi]
    unfold adm
    rw [if_pos rfl, if_pos rfl, if_neg (by omega)]
  exact ⟨by rw [wL, if_pos h, Int.toNat_natCast], by rw [wE, h]⟩
theorem txnum (lim : Int) (h0 : 0 ≤ lim) (h1 : lim ≤ 4294967296) (c : Nat) (w0 w : World) (l : List UInt8) (n s : Nat) (hs : s ≤ 4) (hn : n < 256 ^ s) (hl : (l.length : Int) + s ≤ lim) (h : TxAt lim c w0 w l) :
    Calls Try.prog 33 #[.pointer (some ⟨c, 0, none⟩), .int .i64 (n : Int), .int .i64 (s : Int)] w fun e w' => e = .returned (.tuple #[]) ∧ TxAt lim c w0 w' (l ++ be s n) := by
  obtain ⟨⟨v, hv⟩, hb⟩ := h
  refine (mnum_w c v lim l 0 n s hs w hv h0 (by omega) (by omega)).mono ?_
  rintro e w' ⟨rfl, v', h', hk, _⟩
  rw [(wLx lim l s n hn hl).1, (wLx lim l s n hn hl).2] at h'
  exact ⟨rfl, ⟨v', h'⟩, hb.trans (hk.below (Nat.le_of_lt hv.lt) (Nat.le_refl _) (fun g hg => by have := (hv.own.lt g hg).1; omega))⟩
theorem txnew (lim : Int) (h0 : 0 ≤ lim) (w : World) : Calls Try.prog 32 #[.int .i64 lim] w fun e w' => e = .returned (.pointer (some ⟨w.heap.size, 0, none⟩)) ∧ TxAt lim w.heap.size w w' [] := by
  refine (mnew_any lim w).mono ?_
  rintro e w' ⟨rfl, rfl⟩
  rw [show max lim 0 = lim by omega]
  exact ⟨rfl, ⟨_, ⟨heap_alloc_last w _, ⟨rfl, .inl ⟨rfl, rfl⟩⟩⟩⟩, (Below.refl _ _).alloc (Nat.le_refl _) _⟩
theorem byte_at (n : Nat) (h : n < 256) : bC [UInt8.ofNat n] = [.int .u8 (n : Int)] := by
  show [Value.int .u8 ((UInt8.ofNat n).toNat : Int)] = _
  congr 2
  simp
  omega
section
variable {o : Oper} {a : Act} {w : World} {K : Act → World → Prop} {Q : Exit → Act → World → Prop}
/-- A byte behind one's own bytes. -/
theorem owp_app_B (sl x : Operand) (ho : o.op = .call { callee := .builtin .append, args := #[sl, x], argTypes := #[57, 57] }) (B : Nat) (w0 : World) (v : Value) (l : List UInt8)
    (hs : a.eval sl = v) (hO : Owned B w0 w v l) (g X : Nat) (hX : X < 256) (hx : a.eval x = .slice (some ⟨g, 0, none⟩) 1 1) (hc : w.cell? ⟨g, 0, none⟩ = some (.int .u8 (X : Int))) (hlen : l.length + 1 ≤ 140737488355328)
    (h : ∀ v' w', Hid (Owned B w0 w' v' (l ++ [UInt8.ofNat X])) → K (a.put o.dst v') w') : o.wp Try.prog a w K Q := by
  obtain ⟨i0, hi0, hz0, hz1, hz2⟩ := info_parts Try.info5
  obtain ⟨v', w', hr, h2, h3, h4⟩ := run_append_own (P := Try.prog) w B 57 o.type 5 i0 (.int .u8 0) 1 1 Try.underlying57 hi0 hz0 hz1 hz2 rfl (by decide) v l.length (bC l) hO.own ⟨g, 0, none⟩ 1 1 [.int .u8 (X : Int)] rfl (fun j u hj => by
    match j, hj with
    | 0, hj => simp at hj; subst hj; simpa [Addr.add] using hc) (by simp [Value.oneCell']) (by unfold maxLen; omega) (by omega) hO.le
  refine owp_value (v := v') (w' := w') ?_ (h v' w' (hO.grow (xs := [UInt8.ofNat X]) rfl (by rw [byte_at X hX]; exact h2) h3))
  simp [execOp, ho, resolve, invoke, builtin, hs, hx, hr, Result.andThen]
end
/-- The bytes of seats, of a right paper. -/
def seatBytes (ps : List (Int × ByteArray)) : List UInt8 := ps.flatMap fun p => UInt8.ofNat p.1.toNat :: p.2.data.toList
def paperB (ep : Int) (ps : List (Int × ByteArray)) : List UInt8 := be 1 80 ++ be 2 ep.toNat ++ be 1 ps.length ++ seatBytes ps
theorem seatBytes_snoc (ps : List (Int × ByteArray)) (j : Nat) (hj : j < ps.length) : seatBytes (ps.take (j + 1)) = seatBytes (ps.take j) ++ [UInt8.ofNat (idOf ps j).toNat] ++ (rtOf ps j).data.toList := by
  rw [List.take_add_one, getP_some hj, seatBytes, List.flatMap_append]
  simp [seatBytes]
def bytesS (ep : Int) (ps : List (Int × ByteArray)) : ByteArray := if rightP ep ps then ⟨(paperB ep ps).toArray⟩ else ⟨#[]⟩
def bytesE (ep : Int) (ps : List (Int × ByteArray)) : Int := if rightP ep ps then 0 else 4
theorem seatBytes_len (ps : List (Int × ByteArray)) (h : ∀ p, p ∈ ps → p.2.size = 32) : (seatBytes ps).length = 33 * ps.length := by
  induction ps with
  | nil => rfl
  | cons p ps ih =>
    show (UInt8.ofNat p.1.toNat :: p.2.data.toList ++ seatBytes ps).length = _
    rw [List.length_append, List.length_cons, data_len, h p (List.mem_cons_self ..), ih (fun q hq => h q (List.mem_cons_of_mem _ hq)), List.length_cons]
    omega
theorem right_sizes {ep : Int} {ps : List (Int × ByteArray)} (h : rightP ep ps = true) (p : Int × ByteArray) (hp : p ∈ ps) : (0 ≤ p.1 ∧ p.1 < 16) ∧ p.2.size = 32 := by
  obtain ⟨j, hj, rfl⟩ := List.getElem_of_mem hp
  have h1 := (rightP_parts h).2.2 j hj
  have h2 := getP_some hj
  rw [List.getElem?_eq_getElem hj] at h2
  injection h2 with h2
  rw [h2]
  exact ⟨h1.1, h1.2.1⟩

set_option maxRecDepth 100000 in
set_option maxHeartbeats 6400000 in
theorem xbytes_any (ep : Int) (a : Option Addr) (n cap : Nat) (ps : List (Int × ByteArray)) (hn : ps.length = n) (hm : n ≤ maxLen) (w : World) (hP : PairsIn w a ps) :
    Calls Try.prog 11 #[.agg #[.int .i64 ep, .slice a n cap]] w fun e w' => e = .returned (.tuple #[.string (bytesS ep ps), .int .i64 (bytesE ep ps)]) ∧ Below w.heap.size w w' := by
  have HR : Hid (∀ (b : Bool), rightP ep ps = b → ∀ u : World, PairsIn u a ps → Calls Try.prog 31 #[.agg #[.int .i64 ep, .slice a n cap]] u fun e w' => e = .returned (.bool b) ∧ Below u.heap.size u w') := hid (fun b hb u hu => by rw [← hb]; exact xright_any ep a n cap ps hn hm u hu)
  have HP := hid (hP.keep ((Below.refl w.heap.size w).alloc (Nat.le_refl _) (.cells #[.int .i64 ep, .slice a n cap] 24)) (Nat.le_refl _))
  have HN := hid hn
  clear hP hm hn
  cases hr : rightP ep ps with
  | false =>
    rw [show bytesS ep ps = ⟨#[]⟩ by rw [bytesS, hr]; rfl, show bytesE ep ps = 4 by rw [bytesE, hr]; rfl]
    have HRb := hid (HR.out false hr)
    clear hr
    go_enter Try.func11, Try.ntmps11
    go_wp2_with (go_at_call 31; refine (HRb.out _ (by exact HP.out)).mono ?_; rintro e w1 ⟨rfl, hb1⟩; have H1 := hid (((Below.refl w.heap.size w).alloc (Nat.le_refl _) _).trans (hb1.mono (by simp))); clear hb1)
    go_ret2
    exact ⟨rfl, H1.out⟩
  | true =>
    have HRb := hid (HR.out true hr)
    obtain ⟨⟨he0, he1⟩, ⟨h4, h10⟩, hall⟩ := rightP_parts hr
    rw [HN.out] at h4 h10
    obtain ⟨E, rfl⟩ : ∃ E : Nat, ep = (E : Int) := ⟨ep.toNat, by omega⟩
    rw [show bytesE (E : Int) ps = 0 by rw [bytesE, hr]; rfl]
    obtain ⟨T, eT⟩ : ∃ T, T = bytesS (E : Int) ps := ⟨_, rfl⟩
    have HT : Hid (T = ⟨(be 1 80 ++ be 2 E ++ be 1 n ++ seatBytes ps).toArray⟩) := hid (by rw [eT, bytesS, hr, if_pos rfl, paperB, Int.toNat_natCast, HN.out])
    rw [← eT]
    have HM := hid (And.intro hall (right_sizes hr))
    have hn1 : (n : Int) ≤ 10 := by omega
    have hE1 : (E : Int) ≤ 65535 := by omega
    have HE := hid (And.intro h10 (show E < 65536 by omega))
    clear hr he0 he1 hall h4 h10 eT
    go_enter Try.func11, Try.ntmps11
    go_wp2_with (first
      | (go_at_call 31; refine (HRb.out _ (by exact HP.out)).mono ?_; rintro e w1 ⟨rfl, hb1⟩
         have H1 := hid (And.intro ((PpAt.new w (E : Int) (.slice a n cap) 24).keep hb1) (And.intro (((Below.refl w.heap.size w).alloc (Nat.le_refl _) _).trans (hb1.mono (by simp))) (HP.out.keep hb1 (Nat.le_refl _))))
         clear hb1)
      | (go_at_call 32; refine (txnew 1000 (by decide) _).mono ?_; rintro e w2 ⟨rfl, hw2⟩; have H2 := hid hw2; clear hw2)
      | (go_at_call 33; have := H4; refine (txnum 1000 (by decide) (by decide) _ _ _ (be 1 80 ++ be 2 E) n 1 (by decide) (by have := HE.out.1; omega) (by rw [List.length_append, be_len, be_len]; decide) (by exact H4.out)).mono ?_; rintro e w5 ⟨rfl, h5⟩; have H5 := hid h5; clear h5; obtain ⟨v5, hv5⟩ := H5.out.1; have HV5 := hid hv5; clear hv5; have b5 := HV5.out.c0)
      | (go_at_call 33; have := H3; refine (txnum 1000 (by decide) (by decide) _ _ _ (be 1 80) E 2 (by decide) (by have := HE.out.2; omega) (by rw [be_len]; decide) (by exact H3.out)).mono ?_; rintro e w4 ⟨rfl, h4⟩; have H4 := hid h4; clear h4; have d1 : w4.cell? ⟨w.heap.size, 1, none⟩ = some (.slice a n cap) := (H4.out.2.cell (p := ⟨w.heap.size, 1, none⟩) H1.out.1.lt).trans H1.out.1.c1)
      | (go_at_call 33; refine (txnum 1000 (by decide) (by decide) _ _ _ [] 80 1 (by decide) (by decide) (by decide) (by exact H2.out)).mono ?_; rintro e w3 ⟨rfl, h3⟩; have H3 := hid h3; clear h3; have d0 : w3.cell? ⟨w.heap.size, 0, none⟩ = some (.int .i64 (E : Int)) := (H3.out.2.cell (p := ⟨w.heap.size, 0, none⟩) H1.out.1.lt).trans H1.out.1.c0))
    obtain ⟨P, eP⟩ : ∃ P, P = be 1 80 ++ be 2 E ++ be 1 n := ⟨_, rfl⟩
    rw [← eP] at HV5 H5 HT
    have HPl : Hid (P.length = 4) := hid (by rw [eP, List.length_append, List.length_append, be_len, be_len, be_len])
    obtain ⟨c, ec⟩ : ∃ c, c = w1.heap.size := ⟨_, rfl⟩
    rw [← ec] at HV5 H5 ⊢
    have HC : Hid (w.heap.size < c ∧ c < w5.heap.size ∧ w1.heap.size = c) := hid ⟨by rw [ec]; exact H1.out.1.lt, HV5.out.lt, ec.symm⟩
    have HO5 : Hid (Owned (c + 1) w5 w5 v5 P) := hid ⟨HV5.out.own, Below.refl _ _, HC.out.2.1⟩
    have hb15 : Below c w1 w5 := H5.out.2
    have HG : Hid (∀ u : World, Below (c + 1) w5 u → PpAt u w.heap.size (E : Int) (.slice a n cap) 24 ∧ PairsIn u a ps ∧ Below w.heap.size w u) := hid (fun u hu => by
      have hu1 : Below c w1 u := hb15.trans (hu.mono (Nat.le_succ _))
      exact ⟨(hu1.block _ HC.out.1).trans H1.out.1, H1.out.2.2.keep hu1 (Nat.le_of_eq HC.out.2.2), H1.out.2.1.trans (hu1.mono (Nat.le_of_lt HC.out.1))⟩)
    clear eP this ec hb15 d0 d1 b5 H2 H3 H4 H5 HV5 H1
    go_loopw [5, 6] (fun v i wr => ∃ j : Nat, j ≤ n ∧ i = .int .i64 (j : Int) ∧ Owned (c + 1) w5 wr v (P ++ seatBytes (ps.take j)))
      (fun _ i _ => ((n : Int) - intOf i).toNat)
    case atStart => exact ⟨0, by omega, rfl, by rw [List.take_zero, show seatBytes [] = [] from rfl, List.append_nil]; exact HO5.out⟩
    case round =>
      obtain ⟨j, hj, rfl, hO⟩ := hrel
      have HO := hid hO
      have c1 := (HG.out wr hO.bel).1.c1
      clear hO
      by_cases hjn : j = n
      · have hj1 : ¬ ((j : Int) < (n : Int)) := by omega
        have hc := HO.out.text
        rw [hjn, List.take_of_length_le (by rw [HN.out]; exact Nat.le_refl _), ← HT.out] at hc
        have HC2 := hid hc
        clear hc hj hjn
        go_wp2_with rw [HC2.out]
        go_ret2
        exact ⟨rfl, (HG.out _ HO.out.bel).2.2⟩
      · have hj1 : (j : Int) < (n : Int) := by omega
        have hj0 : (0 : Int) ≤ (j : Int) := Int.natCast_nonneg _
        have hjl : j < ps.length := by rw [HN.out]; omega
        have hrg := HM.out.1 j hjl
        have HSn := hid (seatBytes_snoc ps j hjl)
        obtain ⟨g, off, rfl, hg, _, _⟩ := (HG.out wr HO.out.bel).2.1.at j _ (getP_some hjl)
        have hcells : ∀ u : World, Below (c + 1) w5 u → u.cell? ⟨g, off + j * 2, none⟩ = some (.int .i64 (idOf ps j)) ∧ u.cell? ⟨g, off + j * 2 + 1, none⟩ = some (.string (rtOf ps j)) := fun u hu => by
          obtain ⟨g', off', eg, _, h1, h2⟩ := (HG.out u hu).2.1.at j _ (getP_some hjl)
          obtain ⟨rfl, rfl⟩ : g = g' ∧ off = off' := by simp at eg; exact eg
          exact ⟨h1, h2⟩
        have hlen : (seatBytes (ps.take j)).length ≤ 33 * 10 := by
          rw [seatBytes_len _ (fun p hp => (HM.out.2 p (List.mem_of_mem_take hp)).2), List.length_take]
          omega
        obtain ⟨r, er⟩ : ∃ r, r = rtOf ps j := ⟨_, rfl⟩
        obtain ⟨x, ex⟩ : ∃ x, x = idOf ps j := ⟨_, rfl⟩
        rw [← er, ← ex] at hrg HSn
        have hrs : r.size = 32 := hrg.2.1
        obtain ⟨X, rfl⟩ : ∃ X : Nat, x = (X : Int) := ⟨x.toNat, by omega⟩
        rw [Int.toNat_natCast] at HSn
        obtain ⟨L, eL⟩ : ∃ L, L = P ++ seatBytes (ps.take j) := ⟨_, rfl⟩
        have HX : Hid (X < 256 ∧ L.length + 1 + r.size ≤ 1000) := hid ⟨by omega, by rw [eL, List.length_append, HPl.out, hrs]; omega⟩
        have HL : Hid (P ++ seatBytes (ps.take (j + 1)) = L ++ [UInt8.ofNat X] ++ r.data.toList) := hid (by rw [HSn.out, eL]; simp)
        rw [← eL] at HO
        have HDx : Hid (∀ u : World, Below (c + 1) w5 u → u.cell? ⟨g, off + j * 2, none⟩ = some (.int .i64 (X : Int))) := hid (fun u hu => by rw [ex]; exact (hcells u hu).1)
        have HDr : Hid (∀ u : World, Below (c + 1) w5 u → u.cell? ⟨g, off + j * 2 + 1, none⟩ = some (.string r)) := hid (fun u hu => by rw [er]; exact (hcells u hu).2)
        have HD1 : Hid (∀ u : World, Below (c + 1) w5 u → u.cell? ⟨w.heap.size, 1, none⟩ = some (.slice (some ⟨g, off, none⟩) n cap)) := hid (fun u hu => (HG.out u hu).1.c1)
        have HSW := hid (show Below (c + 1) w5 wr.drew from HO.out.drew.bel)
        have HA := hid ((HO.out.alloc (.cells #[.int .u8 (X : Int)] 5)).drew)
        have e8 : IntKind.u8.wrap (X : Int) = (X : Int) := by
          simp [IntKind.wrap, IntKind.bits, IntKind.signed]
          omega
        have HJ := hid (And.intro hj hjn)
        clear hj hjn hjl hrg hg hcells hlen er ex hrs eL HSn
        go_wp2
        clear c1
        refine wp_region_held (S := fun u => Below (c + 1) w5 u) (by kernel_rfl) ?_
        try (change wpAnyH _ _ _ _ _ _ _ _ (World.drew _))
        refine wpAnyH_take (i := 0) (v := ?v1) rfl (by kernel_rfl) (by kernel_rfl) (by kernel_rfl) (fun _ _ _ h => h) (Or.inl ⟨by rfl, ?hy1⟩) HSW.out ?rest1
        case hy1 => (intro ww _; go_simp; try with_reducible rfl)
        go_simp
        refine wpAnyH_take (i := 1) (v := ?v2) rfl (by kernel_rfl) (by kernel_rfl) (by kernel_rfl) (fun _ _ _ h => h) (Or.inl ⟨by rfl, ?hy2⟩) HSW.out ?rest2
        case hy2 => (intro ww _; go_simp; try with_reducible rfl)
        go_simp
        refine wpAnyH_take (i := 2) (v := ?v3) rfl (by kernel_rfl) (by kernel_rfl) (by kernel_rfl) (fun _ _ _ h => h) (Or.inl ⟨by rfl, ?hy3⟩) HSW.out ?rest3
        case hy3 => (intro ww hS; have z0 := HD1.out ww hS; go_simp; try with_reducible rfl)
        go_simp
        refine wpAnyH_take (i := 3) (v := ?v4) rfl (by kernel_rfl) (by kernel_rfl) (by kernel_rfl) (fun _ _ _ h => h) (Or.inl ⟨by rfl, ?hy4⟩) HSW.out ?rest4
        case hy4 => (intro ww _; go_simp; try with_reducible rfl)
        go_simp
        refine wpAnyH_take (i := 4) (v := ?v5) rfl (by kernel_rfl) (by kernel_rfl) (by kernel_rfl) (fun _ _ _ h => h) (Or.inl ⟨by rfl, ?hy5⟩) HSW.out ?rest5
        case hy5 => (intro ww _; go_simp; try with_reducible rfl)
        go_simp
        refine wpAnyH_take (i := 5) (v := ?v6) rfl (by kernel_rfl) (by kernel_rfl) (by kernel_rfl) (fun _ _ _ h => h) (Or.inl ⟨by rfl, ?hy6⟩) HSW.out ?rest6
        case hy6 => (intro ww _; go_simp; try with_reducible rfl)
        go_simp
        refine wpAnyH_take (i := 6) (v := ?v7) rfl (by kernel_rfl) (by kernel_rfl) (by kernel_rfl) (fun _ _ _ h => h) (Or.inl ⟨by rfl, ?hy7⟩) HSW.out ?rest7
        case hy7 => (intro ww hS; have z0 := HDx.out ww hS; go_simp; try with_reducible rfl)
        go_simp
        refine wpAnyH_take (i := 7) (v := ?v8) rfl (by kernel_rfl) (by kernel_rfl) (by kernel_rfl) (fun _ _ _ h => h) (Or.inl ⟨by rfl, ?hy8⟩) HSW.out ?rest8
        case hy8 => (intro ww _; go_simp; try with_reducible rfl)
        go_simp
        refine wpAnyH_take (i := 10) (v := ?v9) rfl (by kernel_rfl) (by kernel_rfl) (by kernel_rfl) (fun _ _ _ h => h) (Or.inl ⟨by rfl, ?hy9⟩) HSW.out ?rest9
        case hy9 => (intro ww _; go_simp; try with_reducible rfl)
        go_simp
        refine wpAnyH_take (i := 11) (v := ?v10) rfl (by kernel_rfl) (by kernel_rfl) (by kernel_rfl) (fun _ _ _ h => h) (Or.inl ⟨by rfl, ?hy10⟩) HSW.out ?rest10
        case hy10 => (intro ww hS; have z0 := HD1.out ww hS; go_simp; try with_reducible rfl)
        go_simp
        refine wpAnyH_take (i := 12) (v := ?v11) rfl (by kernel_rfl) (by kernel_rfl) (by kernel_rfl) (fun _ _ _ h => h) (Or.inl ⟨by rfl, ?hy11⟩) HSW.out ?rest11
        case hy11 => (intro ww _; go_simp; try with_reducible rfl)
        go_simp
        refine wpAnyH_take (i := 13) (v := ?v12) rfl (by kernel_rfl) (by kernel_rfl) (by kernel_rfl) (fun _ _ _ h => h) (Or.inl ⟨by rfl, ?hy12⟩) HSW.out ?rest12
        case hy12 => (intro ww _; go_simp; try with_reducible rfl)
        go_simp
        refine wpAnyH_take (i := 14) (v := ?v13) rfl (by kernel_rfl) (by kernel_rfl) (by kernel_rfl) (fun _ _ _ h => h) (Or.inl ⟨by rfl, ?hy13⟩) HSW.out ?rest13
        case hy13 => (intro ww _; go_simp; try with_reducible rfl)
        go_simp
        refine wpAnyH_take (i := 15) (v := ?v14) rfl (by kernel_rfl) (by kernel_rfl) (by kernel_rfl) (fun _ _ _ h => h) (Or.inl ⟨by rfl, ?hy14⟩) HSW.out ?rest14
        case hy14 => (intro ww hS; have z0 := HDr.out ww hS; go_simp; try with_reducible rfl)
        go_simp
        refine wpAnyH_all (rs := [8]) (by kernel_rfl) (by simp) ?_
        intro i hi
        obtain rfl := List.mem_singleton.1 hi
        clear hi
        refine wpOp_q rfl rfl (fun K hK => ?_)
        go_simp
        refine hK _ _ ⟨HA.out.bel, ?_⟩
        clear hK K
        go_simp
        refine wpAnyH_all (rs := [9]) (by kernel_rfl) (by simp) ?_
        intro i hi
        obtain rfl := List.mem_singleton.1 hi
        clear hi
        refine wpOp_q rfl rfl (fun K hK => ?_)
        refine owp_app_B _ _ rfl (c + 1) w5 _ L (by rfl) HA.out wr.heap.size X HX.out.1 (by rfl) (cell_at (L := [.int .u8 (X : Int)]) (t := 5) (fr := (0, 0)) (show (wr.alloc (.cells #[.int .u8 (X : Int)] 5)).drew.heap[wr.heap.size]? = _ from heap_alloc_last wr _) 0 _ rfl) (by have := HX.out.2; omega) ?_
        intro v6 w6 H6
        refine hK _ _ ⟨H6.out.bel, ?_⟩
        clear hK K
        go_simp
        refine wpAnyH_all (rs := [16]) (by kernel_rfl) (by simp) ?_
        intro i hi
        obtain rfl := List.mem_singleton.1 hi
        clear hi
        refine wpOp_q rfl rfl (fun K hK => ?_)
        refine owp_app_str _ _ rfl (c + 1) w5 _ _ (by rfl) H6.out r (by rfl) (by have := HX.out.2; rw [List.length_append]; simp; omega) ?_
        intro v7 w7 H7
        refine hK _ _ ⟨H7.out.bel, ?_⟩
        clear hK K
        go_simp
        refine wpAnyH_take (i := 17) (v := ?v20) rfl (by kernel_rfl) (by kernel_rfl) (by kernel_rfl) (fun _ _ _ h => h) (Or.inl ⟨by rfl, ?hy20⟩) H7.out.bel ?rest20
        case hy20 => (intro ww _; go_simp; try with_reducible rfl)
        go_simp
        refine wpAnyH_done (by kernel_rfl) ?_ _
        go_simp
        go_wp2
        go_roundw
        case rel => exact ⟨j + 1, by have := HJ.out; omega, by go_num, by rw [HL.out]; exact H7.out⟩
        case measure => simp [intOf]; omega
end Go.Proofs.Ytchlmcpnjpllnaa

/- What all families of texts share: results that live in a variable; rows of one's own beside a store elsewhere. -/
namespace Go.Proofs.Ytchlmcpnjpllnaa
open Go.RowKit

theorem ret_pair {f : Func} {a : Act} {w : World} {Q : Ending → World → Prop} {s s2 : Nat} {t : TypeId} {ad : Addr} {v v2 : Value} (hr : f.results = #[.cell s t, .tmp s2]) (hs : a.tmps.getD s undef = .pointer (some ad)) (hl : (loadVar t ad).run Try.prog w = .ok v w) (h2 : a.tmps.getD s2 undef = v2) (hd : a.defers = [])
    (h : Q (.returned (.tuple #[v, v2])) w) : bodyPost Try.prog f Q .ret a w := by
  refine bodyPost_ret (v := .tuple #[v, v2]) ?_ hd h
  have h1 : a.tmps.getD s undef = .pointer (some ad) := hs
  simp [results, hr, -Array.getD_eq_getD_getElem?, h1, h2, asAddr, hl]
theorem ret_three {f : Func} {a : Act} {w : World} {Q : Ending → World → Prop} {s s2 s3 : Nat} {t : TypeId} {ad : Addr} {v v2 v3 : Value} (hr : f.results = #[.cell s t, .tmp s2, .tmp s3]) (hs : a.tmps.getD s undef = .pointer (some ad)) (hl : (loadVar t ad).run Try.prog w = .ok v w) (h2 : a.tmps.getD s2 undef = v2) (h3 : a.tmps.getD s3 undef = v3) (hd : a.defers = [])
    (h : Q (.returned (.tuple #[v, v2, v3])) w) : bodyPost Try.prog f Q .ret a w := by
  refine bodyPost_ret (v := .tuple #[v, v2, v3]) ?_ hd h
  have h1 : a.tmps.getD s undef = .pointer (some ad) := hs
  simp [results, hr, -Array.getD_eq_getD_getElem?, h1, h2, h3, asAddr, hl]
theorem ret_four {f : Func} {a : Act} {w : World} {Q : Ending → World → Prop} {s s2 s3 s4 : Nat} {t : TypeId} {ad : Addr} {v v2 v3 v4 : Value} (hr : f.results = #[.cell s t, .tmp s2, .tmp s3, .tmp s4]) (hs : a.tmps.getD s undef = .pointer (some ad)) (hl : (loadVar t ad).run Try.prog w = .ok v w) (h2 : a.tmps.getD s2 undef = v2) (h3 : a.tmps.getD s3 undef = v3) (h4 : a.tmps.getD s4 undef = v4) (hd : a.defers = [])
    (h : Q (.returned (.tuple #[v, v2, v3, v4])) w) : bodyPost Try.prog f Q .ret a w := by
  refine bodyPost_ret (v := .tuple #[v, v2, v3, v4]) ?_ hd h
  have h1 : a.tmps.getD s undef = .pointer (some ad) := hs
  simp [results, hr, -Array.getD_eq_getD_getElem?, h1, h2, h3, h4, asAddr, hl]
theorem res_put {w : World} {b : Nat} {p q x y : Value} {T : TypeId} (h : w.heap[b]? = some (.cells #[p, q] T (0, 0))) : ((w.setCell ⟨b, 0, none⟩ x).setCell ⟨b, 1, none⟩ y).heap[b]? = some (.cells #[x, y] T (0, 0)) := by
  have h1 : (w.setCell ⟨b, 0, none⟩ x).heap[b]? = some (.cells #[x, q] T (0, 0)) := (blk_set h 0 x).trans (by simp)
  exact (blk_set h1 1 y).trans (by simp)
theorem own_put {w : World} {B z : Nat} {v : Value} {n : Nat} {xs : List Value} {e : TypeId} (h : w.ownsRow B e z v n xs) (r o : Nat) (x : Value) (hr : r < B) : (w.setCell ⟨r, o, none⟩ x).ownsRow B e z v n xs := by
  refine ⟨h.1, ?_⟩
  rcases h.2 with hn | ⟨g, cap, cur, hv, hB, hh, hx⟩
  · exact .inl hn
  · exact .inr ⟨g, cap, cur, hv, hB, (Below.heap_setCell _ _ _ _ (by show ¬ g = r; omega)).trans hh, hx⟩
theorem cell_two {w : World} {b : Nat} {x y : Value} {T : TypeId} {fr : Nat × Nat} (h : w.heap[b]? = some (.cells #[x, y] T fr)) : w.cell? ⟨b, 0, none⟩ = some x ∧ w.cell? ⟨b, 1, none⟩ = some y :=
  ⟨cell_at (L := [x, y]) h 0 _ rfl, cell_at (L := [x, y]) h 1 _ rfl⟩
end Go.Proofs.Ytchlmcpnjpllnaa

/- What the document reads as a paper. -/
namespace Go.Proofs.Ytchlmcpnjpllnaa
open Go.RowKit

/-- The i-th byte. -/
def byteN (t : ByteArray) (i : Nat) : Nat := (t.data.toList.getD i 0).toNat
theorem byteN_lt (t : ByteArray) (i : Nat) : byteN t i < 256 := UInt8.toNat_lt _
theorem byteN_get (t : ByteArray) (i : Nat) (h : i < t.size) : byteN t i = (t[i]'h).toNat := by
  have hd : i < t.data.toList.length := by rw [data_len]; exact h
  rw [byteN, List.getD_eq_getElem?_getD, List.getElem?_eq_getElem hd]
  rfl
/-- Has it the form of a paper's bytes? -/
def formP (t : ByteArray) : Bool := decide (4 ≤ t.size ∧ byteN t 0 = 80 ∧ t.size = 4 + 33 * byteN t 3)
def seatR (t : ByteArray) (k : Nat) : Int × ByteArray := ((byteN t (4 + 33 * k) : Int), t.extract (5 + 33 * k) (37 + 33 * k))
def seatsR (t : ByteArray) : Nat → List (Int × ByteArray)
  | 0 => []
  | k + 1 => seatsR t k ++ [seatR t k]
theorem seatsR_len (t : ByteArray) : ∀ k, (seatsR t k).length = k
  | 0 => rfl
  | k + 1 => by rw [seatsR, List.length_append, seatsR_len t k]; rfl
def epP (t : ByteArray) : Int := ((byteN t 1 * 256 + byteN t 2 : Nat) : Int)
def readPB (t : ByteArray) : Bool := formP t && rightP (epP t) (seatsR t (byteN t 3))
def readPZ (t : ByteArray) : Int := if readPB t then epP t else 0
def readPL (t : ByteArray) : List (Int × ByteArray) := if readPB t then seatsR t (byteN t 3) else []
def readPE (t : ByteArray) : Int := if readPB t then 0 else 5
theorem Try.info44 : (Try.prog.info? 44).map (fun i => (i.zero, i.size, i.bytes)) = some (some (.agg #[.int .i64 0, .string ⟨#[]⟩]), 2, 24) := by kernel_rfl
/-- While a paper is read: the result's block, the paper's block, its seats. -/
structure PrSt (w0 w : World) (b : Nat) (E : Int) (v : Value) (ps : List (Int × ByteArray)) : Prop where
  res : w.heap[w0.heap.size]? = some (.cells #[.int .i64 0, .slice none 0 0] 24 (0, 0))
  pp : w.heap[b]? = some (.cells #[.int .i64 E, v] 24 (0, 0))
  own : w.ownsRow (b + 1) 44 2 v ps.length (pC ps)
  bel : Below w0.heap.size w0 w
  hb : w0.heap.size < b

theorem wrap_mid (x : Int) (h0 : 0 ≤ x) (h1 : x < 1000000) : IntKind.i64.wrap x = x := by
  simp [IntKind.wrap, IntKind.bits, IntKind.signed]
  omega
theorem PrSt.keep {w0 w w' : World} {b : Nat} {E : Int} {v : Value} {ps : List (Int × ByteArray)} (h : PrSt w0 w b E v ps) (hb : Below w.heap.size w w') : PrSt w0 w' b E v ps :=
  ⟨(hb.block _ (lt_of_blk h.res)).trans h.res, (hb.block _ (lt_of_blk h.pp)).trans h.pp, ownsRow_keep h.own hb, h.bel.trans (hb.mono h.bel.size), h.hb⟩
theorem PrSt.drew {w0 w : World} {b : Nat} {E : Int} {v : Value} {ps : List (Int × ByteArray)} (h : PrSt w0 w b E v ps) : PrSt w0 w.drew b E v ps := ⟨h.res, h.pp, ownsRow_heap rfl h.own, ⟨h.bel.os, h.bel.tape, h.bel.output, h.bel.size, h.bel.block⟩, h.hb⟩
theorem load_paper (w : World) (b : Nat) (x y : Value) (c0 : w.cell? ⟨b, 0, none⟩ = some x) (c1 : w.cell? ⟨b, 1, none⟩ = some y) : (loadVar 24 ⟨b, 0, none⟩).run Try.prog w = .ok (.agg #[x, y]) w := by
  go_simp
theorem own_pairs {w : World} {B : Nat} {v : Value} {ps : List (Int × ByteArray)} {T : TypeId} (h : w.ownsRow B T 2 v ps.length (pC ps)) : ∃ ad cap, v = .slice ad ps.length cap ∧ PairsIn w ad ps := by
  rcases h.2 with ⟨hv, h0⟩ | ⟨g, cap, cur, hv, hB, hh, hx⟩
  · exact ⟨none, 0, by rw [hv, h0], .inl (List.eq_nil_of_length_eq_zero h0)⟩
  · refine ⟨_, cap, hv, .inr ⟨g, 0, rfl, lt_of_blk hh, fun j p hj => ?_⟩⟩
    subst hv
    have h1 := h.cells (g := g) rfl _ _ (pC_get ps j p hj).1
    have h2 := h.cells (g := g) rfl _ _ (pC_get ps j p hj).2
    rw [Addr.add_lit] at h1 h2
    exact ⟨h1, by rw [Nat.add_assoc]; exact h2⟩
/-- The next one put behind those read. -/
theorem PrSt.put {w0 w w4 : World} {b : Nat} {E : Int} {v v4 : Value} {l l4 : List (Int × ByteArray)} {o : Obj} (h : PrSt w0 w b E v l) (h4 : w4.ownsRow (b + 1) 44 2 v4 l4.length (pC l4)) (hg : (w.alloc o).grownBy w4 v.ownBlock) :
    PrSt w0 (w4.setCell ⟨b, 1, none⟩ v4) b E v4 l4 := by
  have hne : ∀ k, k ≤ b → some k ≠ v.ownBlock := fun k hk e => by have := (h.own.lt k e.symm).1; omega
  have hkeep : ∀ k, k ≤ b → k < w.heap.size → w4.heap[k]? = w.heap[k]? := fun k hk hlt => (hg.block k (by simp; omega) (hne k hk)).trans (Below.heap_alloc w o k hlt)
  have hb := h.hb
  have hcf : w4.heap[b]? = some (.cells #[.int .i64 E, v] 24 (0, 0)) := (hkeep b (Nat.le_refl _) (lt_of_blk h.pp)).trans h.pp
  have hoth : ∀ k, k ≠ b → (w4.setCell ⟨b, 1, none⟩ v4).heap[k]? = w4.heap[k]? := fun k hk => Below.heap_setCell _ _ _ _ (by simpa using hk)
  have hbel4 : Below w0.heap.size w0 w4 := (h.bel.alloc h.bel.size o).grown hg (by have := h.bel.size; simp; omega) (fun k hk => by have := (h.own.lt k hk).1; omega)
  refine ⟨?_, ?_, ?_, ?_, hb⟩
  · rw [hoth _ (by omega), hkeep _ (by omega) (lt_of_blk h.res)]
    exact h.res
  · exact (blk_set hcf 1 v4).trans (by simp)
  · refine ⟨h4.1, ?_⟩
    rcases h4.2 with hn | ⟨g, cap, cur, hv, hB, hh, hx⟩
    · exact .inl hn
    · exact .inr ⟨g, cap, cur, hv, hB, (hoth g (by omega)).trans hh, hx⟩
  · exact hbel4.setCell (p := ⟨b, 1, none⟩) (by show w0.heap.size ≤ b; omega) _
section
variable {o : Oper} {a : Act} {w : World} {K : Act → World → Prop} {Q : Exit → Act → World → Prop}
/-- A seat behind one's own seats. -/
theorem owp_app_P (sl x : Operand) (ho : o.op = .call { callee := .builtin .append, args := #[sl, x], argTypes := #[22, 22] }) (B : Nat) (v : Value) (n : Nat) (l : List (Int × ByteArray))
    (hs : a.eval sl = v) (hO : w.ownsRow B 44 2 v n (pC l)) (g : Nat) (y : Int × ByteArray) (hx : a.eval x = .slice (some ⟨g, 0, none⟩) 1 1) (hc0 : w.cell? ⟨g, 0, none⟩ = some (.int .i64 y.1)) (hc1 : w.cell? ⟨g, 1, none⟩ = some (.string y.2)) (hB : B ≤ w.heap.size) (hlen : n + 1 ≤ 1000000)
    (h : ∀ v' w', Hid (w'.ownsRow B 44 2 v' (n + 1) (pC (l ++ [y]))) → Hid (w.grownBy w' v.ownBlock) → K (a.put o.dst v') w') : o.wp Try.prog a w K Q := by
  obtain ⟨i0, hi0, hz0, hz1, hz2⟩ := info_parts Try.info44
  obtain ⟨v', w', hr, h2, h3, h4⟩ := run_append_own (P := Try.prog) w B 22 o.type 44 i0 (.agg #[.int .i64 0, .string ⟨#[]⟩]) 2 24 Try.underlying22 hi0 hz0 hz1 hz2 rfl (by decide) v n (pC l) hO ⟨g, 0, none⟩ 1 1 [.int .i64 y.1, .string y.2] rfl (fun j u hj => by
    match j, hj with
    | 0, hj => simp at hj; subst hj; simpa [Addr.add] using hc0
    | 1, hj => simp at hj; subst hj; simpa [Addr.add] using hc1) (by simp [Value.oneCell']) (by unfold maxLen; omega) (by omega) hB
  refine owp_value (v := v') (w' := w') ?_ (h v' w' (by rw [pC_app]; exact h2) h3)
  simp [execOp, ho, resolve, invoke, builtin, hs, hx, hr, Result.andThen]
end
set_option maxRecDepth 100000 in
set_option maxHeartbeats 6400000 in
theorem xread_any (t : ByteArray) (w : World) :
    Calls Try.prog 13 #[.string t] w fun e w' => ∃ v, e = .returned (.tuple #[.agg #[.int .i64 (readPZ t), v], .int .i64 (readPE t)]) ∧ w'.ownsRow w.heap.size 44 2 v (readPL t).length (pC (readPL t)) ∧ Below w.heap.size w w' := by
  by_cases h4 : 4 ≤ t.size
  · have h41 : ¬ ((t.size : Int) < 4) := by omega
    have hp0 : 0 < t.size := by omega
    have hp1 : 1 < t.size := by omega
    have hp2 : 2 < t.size := by omega
    have hp3 : 3 < t.size := by omega
    have q0 : (0 : Int) < (t.size : Int) := by omega
    have q1 : (1 : Int) < (t.size : Int) := by omega
    have q2 : (2 : Int) < (t.size : Int) := by omega
    have q3 : (3 : Int) < (t.size : Int) := by omega
    obtain ⟨B0, e0⟩ : ∃ B0, B0 = byteN t 0 := ⟨_, rfl⟩
    obtain ⟨B1, e1⟩ : ∃ B1, B1 = byteN t 1 := ⟨_, rfl⟩
    obtain ⟨B2, e2⟩ : ∃ B2, B2 = byteN t 2 := ⟨_, rfl⟩
    obtain ⟨N, e3⟩ : ∃ N, N = byteN t 3 := ⟨_, rfl⟩
    have k0 : (t[0]'hp0).toNat = B0 := by rw [e0, byteN_get t 0 hp0]
    have k1 : (t[1]'hp1).toNat = B1 := by rw [e1, byteN_get t 1 hp1]
    have k2 : (t[2]'hp2).toNat = B2 := by rw [e2, byteN_get t 2 hp2]
    have k3 : (t[3]'hp3).toNat = N := by rw [e3, byteN_get t 3 hp3]
    have l0 : (B0 : Int) < 256 := by have := byteN_lt t 0; omega
    have l1 : (B1 : Int) < 256 := by have := byteN_lt t 1; omega
    have l2 : (B2 : Int) < 256 := by have := byteN_lt t 2; omega
    have l3 : (N : Int) < 256 := by have := byteN_lt t 3; omega
    have m0 : (0 : Int) ≤ (B0 : Int) := Int.natCast_nonneg _
    have m1 : (0 : Int) ≤ (B1 : Int) := Int.natCast_nonneg _
    have m2 : (0 : Int) ≤ (B2 : Int) := Int.natCast_nonneg _
    have m3 : (0 : Int) ≤ (N : Int) := Int.natCast_nonneg _
    by_cases h80 : B0 = 80
    · have h81 : (B0 : Int) = 80 := by omega
      by_cases hsz : t.size = 4 + 33 * N
      · have hsz1 : ¬ ((t.size : Int) = 4 + 33 * (N : Int)) → False := fun h => h (by omega)
        have hsz2 : (t.size : Int) = 4 + 33 * (N : Int) := by omega
        obtain ⟨E, eE⟩ : ∃ E : Int, E = (B1 : Int) * 256 + (B2 : Int) := ⟨_, rfl⟩
        have HF : Hid (formP t = true ∧ epP t = E ∧ byteN t 3 = N) := hid ⟨decide_eq_true ⟨h4, by rw [← e0]; exact h80, by rw [← e3]; exact hsz⟩, by rw [epP, ← e1, ← e2, eE]; omega, e3.symm⟩
        have HSZ := hid (And.intro hsz hsz2)
        have HE := hid eE
        clear e0 e1 e2 e3 h4 h80 hsz hsz1 eE
        go_enter Try.func13, Try.ntmps13
        go_wp2
        go_region
        rw [← HE.out]
        clear hsz2
        go_wp2
        have H0 : Hid (PrSt w (((w.alloc (.cells #[.int .i64 0, .slice none 0 0] 24)).alloc (.cells #[.int .i64 E, .slice none 0 0] 24)).drew) (w.heap.size + 1) E (.slice none 0 0) []) := hid
          ⟨(Below.heap_alloc _ _ _ (by simp)).trans (heap_alloc_last w _), snd_alloc w _ _, ⟨rfl, .inl ⟨rfl, rfl⟩⟩, (((Below.refl _ _).alloc (Nat.le_refl _) _).alloc (by simp) _).drew, Nat.lt_succ_self _⟩
        obtain ⟨b, eb⟩ : ∃ b, b = w.heap.size + 1 := ⟨_, rfl⟩
        rw [← eb] at H0 ⊢
        generalize ((w.alloc (.cells #[.int .i64 0, .slice none 0 0] 24)).alloc (.cells #[.int .i64 E, .slice none 0 0] 24)).drew = w1 at H0 ⊢
        clear eb
        have hdN : decide (4 + 33 * (N : Int) < 4) = false := decide_eq_false (by omega)
        simp only [hdN]
        have HSW : Hid (t.size = 4 + 33 * N) := hid HSZ.out.1
        clear hdN k0 k1 k2 k3 q0 q1 q2 q3 l0 l1 l2 m0 m1 m2 hp0 hp1 hp2 hp3 h41
        go_loopw [5] (fun i wr => ∃ (j : Nat) (v : Value), j ≤ N ∧ i = .int .i64 ((4 + 33 * j : Nat) : Int) ∧ PrSt w wr b E v (seatsR t j))
          (fun i _ => ((t.size : Int) - intOf i).toNat)
        case atStart => exact ⟨0, .slice none 0 0, by omega, rfl, H0.out⟩
        case round =>
          obtain ⟨j, v, hj, rfl, hO⟩ := hrel
          have HO := hid hO
          have c0 := (cell_two hO.pp).1
          have c1 := (cell_two hO.pp).2
          have f1 : wr.frozen? ⟨b, 1, none⟩ = false := free_at hO.pp 1
          clear hO H0
          by_cases hjn : j = N
          · have hj1 : ¬ (((4 + 33 * j : Nat) : Int) < (t.size : Int)) := by have := HSW.out; omega
            subst hjn
            have hO := HO.out
            obtain ⟨ad, cap, hv, hI⟩ := own_pairs hO.own
            subst hv
            have hlen := seatsR_len t j
            rw [hlen] at c1
            have HRt : Hid (∀ (bb : Bool), rightP E (seatsR t j) = bb → ∀ u : World, PairsIn u ad (seatsR t j) → Calls Try.prog 31 #[.agg #[.int .i64 E, .slice ad j cap]] u fun e w' => e = .returned (.bool bb) ∧ Below u.heap.size u w') := hid (fun bb hbb u hu => by rw [← hbb]; exact xright_any E ad j cap _ hlen (by unfold maxLen; have := byteN_lt t 3; have := HF.out.2.2; omega) u hu)
            have HI := hid hI
            have HLn := hid hlen
            generalize ((4 + 33 * j : Nat) : Int) = A at hj1 ⊢
            clear hj hO hI hlen
            cases hr : rightP E (seatsR t j) with
            | true =>
              have HRb := hid (HRt.out true hr)
              have HB : Hid (readPB t = true) := hid (by rw [readPB, HF.out.1, HF.out.2.1, HF.out.2.2, hr]; rfl)
              clear hr
              go_wp2_with (go_at_call 31; refine (HRb.out _ (by exact HI.out)).mono ?_; rintro e w7 ⟨rfl, hb7⟩; have H7 := hid (And.intro (HO.out.keep hb7) (And.intro (HI.out.keep hb7 (Nat.le_refl _)) hb7)); clear hb7
                           have g0 : w7.cell? ⟨b, 0, none⟩ = some (.int .i64 E) := (cell_two H7.out.1.pp).1
                           have g1 : w7.cell? ⟨b, 1, none⟩ = some (.slice ad j cap) := (cell_two H7.out.1.pp).2.trans (by rw [HLn.out])
                           have s0 := (cell_two H7.out.1.res).1
                           have s1 := (cell_two H7.out.1.res).2
                           have t0 : w7.frozen? ⟨w.heap.size, 0, none⟩ = false := free_at H7.out.1.res 0
                           have t1 : w7.frozen? ⟨w.heap.size, 1, none⟩ = false := free_at H7.out.1.res 1)
              refine ret_pair (s := 2) (s2 := 3) (ad := ⟨w.heap.size, 0, none⟩) rfl rfl (load_paper _ _ (.int .i64 E) (.slice ad j cap) (cell_two (res_put H7.out.1.res)).1 (cell_two (res_put H7.out.1.res)).2) rfl rfl ?_
              have hb2 := H7.out.1.hb
              have hown := (own_put (own_put H7.out.1.own w.heap.size 0 (.int .i64 E) (by omega)) w.heap.size 1 (.slice ad j cap) (by omega)).mono (show w.heap.size ≤ b + 1 by omega)
              rw [readPZ, readPL, readPE, HB.out, HF.out.2.1, HF.out.2.2]
              refine ⟨_, rfl, ?_, (H7.out.1.bel.setCell (p := ⟨w.heap.size, 0, none⟩) (Nat.le_refl _) _).setCell (p := ⟨w.heap.size, 1, none⟩) (Nat.le_refl _) _⟩
              rw [if_pos rfl]
              rw [HLn.out] at hown ⊢
              exact hown
            | false =>
              have HRb := hid (HRt.out false hr)
              have HB : Hid (readPB t = false) := hid (by rw [readPB, HF.out.2.1, HF.out.2.2, hr]; simp)
              clear hr
              go_wp2_with (go_at_call 31; refine (HRb.out _ (by exact HI.out)).mono ?_; rintro e w7 ⟨rfl, hb7⟩; have H7 := hid (And.intro (HO.out.keep hb7) hb7); clear hb7
                           have s0 := (cell_two H7.out.1.res).1
                           have s1 := (cell_two H7.out.1.res).2
                           have t0 : w7.frozen? ⟨w.heap.size, 0, none⟩ = false := free_at H7.out.1.res 0
                           have t1 : w7.frozen? ⟨w.heap.size, 1, none⟩ = false := free_at H7.out.1.res 1)
              refine ret_pair (s := 2) (s2 := 3) (ad := ⟨w.heap.size, 0, none⟩) rfl rfl (load_paper _ _ (.int .i64 0) (.slice none 0 0) (cell_two (res_put H7.out.1.res)).1 (cell_two (res_put H7.out.1.res)).2) rfl rfl ?_
              rw [readPZ, readPL, readPE, HB.out]
              exact ⟨_, rfl, ⟨rfl, .inl ⟨rfl, rfl⟩⟩, (H7.out.1.bel.setCell (p := ⟨w.heap.size, 0, none⟩) (Nat.le_refl _) _).setCell (p := ⟨w.heap.size, 1, none⟩) (Nat.le_refl _) _⟩
          · have hjN : j < N := by omega
            obtain ⟨A, eA⟩ : ∃ A, A = 4 + 33 * j := ⟨_, rfl⟩
            have HA2 : Hid (A = 4 + 33 * j ∧ A + 33 ≤ t.size) := hid ⟨eA, by rw [eA, HSW.out]; omega⟩
            rw [← eA]
            have hA : A < t.size := by have := HA2.out; omega
            have hA1 : (A : Int) < (t.size : Int) := by omega
            have hA0 : (0 : Int) ≤ (A : Int) := Int.natCast_nonneg _
            have hA3 : (A : Int) + 33 ≤ (t.size : Int) := by have := HA2.out; omega
            have hA4 : (A : Int) ≤ 10000 := by have := byteN_lt t 3; have := HF.out.2.2; omega
            obtain ⟨X, eX⟩ : ∃ X, X = byteN t A := ⟨_, rfl⟩
            have kX : (t[A]'hA).toNat = X := by rw [eX, byteN_get t A hA]
            have lX : (X : Int) < 256 := by have := byteN_lt t A; omega
            have mX : (0 : Int) ≤ (X : Int) := Int.natCast_nonneg _
            obtain ⟨C, eC⟩ : ∃ C, C = A + 1 := ⟨_, rfl⟩
            obtain ⟨D, eD⟩ : ∃ D, D = A + 33 := ⟨_, rfl⟩
            have w1 : IntKind.i64.wrap ((A : Int) + 1) = (C : Int) := by rw [wrap_mid _ (by omega) (by omega)]; omega
            have w2 : IntKind.i64.wrap ((A : Int) + 33) = (D : Int) := by rw [wrap_mid _ (by omega) (by omega)]; omega
            have w3 : IntKind.i64.wrap (X : Int) = (X : Int) := wrap_mid _ (by omega) (by omega)
            have hC0 : (0 : Int) ≤ (C : Int) := Int.natCast_nonneg _
            have hD0 : (0 : Int) ≤ (D : Int) := Int.natCast_nonneg _
            have hCD : (C : Int) ≤ (D : Int) := by omega
            have hD1 : (D : Int) ≤ (t.size : Int) := by omega
            have HL : Hid (seatsR t (j + 1) = seatsR t j ++ [((X : Int), t.extract C D)]) := hid (by rw [seatsR, seatR, eX, eC, eD, eA, show 4 + 33 * j + 1 = 5 + 33 * j by omega, show 4 + 33 * j + 33 = 37 + 33 * j by omega])
            have HN : Hid ((seatsR t j).length + 1 ≤ 1000000) := hid (by rw [seatsR_len]; omega)
            have HDN : Hid (D = 4 + 33 * (j + 1) ∧ D = A + 33) := hid ⟨by omega, eD⟩
            have HJ := hid (And.intro hj hjn)
            have HOa : Hid (∀ o : Obj, (wr.alloc o).ownsRow (b + 1) 44 2 v (seatsR t j).length (pC (seatsR t j))) := hid (fun o => HO.out.own.alloc o)
            have HBs : Hid (b + 1 ≤ wr.heap.size) := hid (lt_of_blk HO.out.pp)
            have c1a : ∀ o : Obj, (wr.alloc o).cell? ⟨b, 1, none⟩ = some v := fun o => (World.cell?_of_block (Below.heap_alloc wr o b (lt_of_blk HO.out.pp))).trans (cell_two HO.out.pp).2
            clear eA eX hj hjn hjN eC eD
            have HC : Hid ((wr.alloc (.cells #[.int .i64 (X : Int), .string (t.extract C D)] 44)).drew.heap[wr.heap.size]? = some (.cells #[.int .i64 (X : Int), .string (t.extract C D)] 44 (0, 0))) := hid (heap_alloc_last wr _)
            go_wp2
            go_region_law
              ((refine step_of rfl (owp_app_P _ _ rfl (b + 1) v _ (seatsR t j) rfl (by exact HOa.out _) wr.heap.size ((X : Int), t.extract C D) rfl (by exact (cell_two HC.out).1) (by exact (cell_two HC.out).2) (by have := HBs.out; simp; omega) HN.out ?_); intro v6 w6 h6 g6
                obtain ⟨ao6, n6, cp6, hv6⟩ : ∃ a n c, v6 = .slice a n c := (by rcases h6.out.2 with ⟨hv, _⟩ | ⟨g, cap, cur, hv, _⟩ <;> exact ⟨_, _, _, hv⟩)
                subst hv6
                have H6 := hid (HO.out.drew.put (l4 := seatsR t j ++ [((X : Int), t.extract C D)]) (by have := h6.out; rwa [List.length_append]) (by exact g6.out))
                have z1 : w6.cell? ⟨b, 1, none⟩ = some v := (g6.out.cell_far _ (by have := HBs.out; simp; omega) (fun e => by have := (HO.out.own.lt b e.symm).1; omega)).trans ((World.cell?_of_block (Below.heap_alloc wr _ b (lt_of_blk HO.out.pp))).trans (cell_two HO.out.pp).2)
                have y1 : w6.frozen? ⟨b, 1, none⟩ = false := (g6.out.frozen_far _ (by have := HBs.out; simp; omega) (fun e => by have := (HO.out.own.lt b e.symm).1; omega)).trans ((World.frozen?_of_block (Below.heap_alloc wr _ b (lt_of_blk HO.out.pp))).trans (free_at HO.out.pp 1))
                clear h6 g6))
            all_goals go_wp2
            all_goals
              go_roundw
              case rel => exact ⟨j + 1, _, by have := HJ.out; omega, by have := HDN.out; congr 1; omega, by rw [HL.out]; exact H6.out⟩
              case measure => simp [intOf]; have := HDN.out; omega
      · have hsz1 : ¬ ((t.size : Int) = 4 + 33 * (N : Int)) := by omega
        have HB : Hid (readPB t = false) := hid (by rw [readPB, formP, decide_eq_false (fun h => hsz (by rw [e3]; exact h.2.2))]; rfl)
        clear e0 e1 e2 e3 h4 h80 hsz
        go_enter Try.func13, Try.ntmps13
        go_wp2
        refine ret_pair (s := 2) (s2 := 3) (ad := ⟨w.heap.size, 0, none⟩) rfl rfl (load_paper _ _ (.int .i64 0) (.slice none 0 0) (cell_two ((heap_alloc_last w (.cells #[.int .i64 0, .slice none 0 0] 24)))).1 (cell_two ((heap_alloc_last w (.cells #[.int .i64 0, .slice none 0 0] 24)))).2) rfl rfl ?_
        rw [readPZ, readPL, readPE, HB.out]
        exact ⟨_, rfl, ⟨rfl, .inl ⟨rfl, rfl⟩⟩, ((Below.refl w.heap.size w).alloc (Nat.le_refl _) (.cells #[.int .i64 0, .slice none 0 0] 24))⟩
    · have h81 : ¬ ((B0 : Int) = 80) := by omega
      have HB : Hid (readPB t = false) := hid (by rw [readPB, formP, decide_eq_false (fun h => h80 (by rw [e0]; exact h.2.1))]; rfl)
      clear e0 e1 e2 e3 h4 h80
      go_enter Try.func13, Try.ntmps13
      go_wp2
      refine ret_pair (s := 2) (s2 := 3) (ad := ⟨w.heap.size, 0, none⟩) rfl rfl (load_paper _ _ (.int .i64 0) (.slice none 0 0) (cell_two ((heap_alloc_last w (.cells #[.int .i64 0, .slice none 0 0] 24)))).1 (cell_two ((heap_alloc_last w (.cells #[.int .i64 0, .slice none 0 0] 24)))).2) rfl rfl ?_
      rw [readPZ, readPL, readPE, HB.out]
      exact ⟨_, rfl, ⟨rfl, .inl ⟨rfl, rfl⟩⟩, ((Below.refl w.heap.size w).alloc (Nat.le_refl _) (.cells #[.int .i64 0, .slice none 0 0] 24))⟩
  · have h41 : (t.size : Int) < 4 := by omega
    have HB : Hid (readPB t = false) := hid (by rw [readPB, formP, decide_eq_false (fun h => h4 h.1)]; rfl)
    clear h4
    go_enter Try.func13, Try.ntmps13
    go_wp2
    refine ret_pair (s := 2) (s2 := 3) (ad := ⟨w.heap.size, 0, none⟩) rfl rfl (load_paper _ _ (.int .i64 0) (.slice none 0 0) (cell_two ((heap_alloc_last w (.cells #[.int .i64 0, .slice none 0 0] 24)))).1 (cell_two ((heap_alloc_last w (.cells #[.int .i64 0, .slice none 0 0] 24)))).2) rfl rfl ?_
    rw [readPZ, readPL, readPE, HB.out]
    exact ⟨_, rfl, ⟨rfl, .inl ⟨rfl, rfl⟩⟩, ((Below.refl w.heap.size w).alloc (Nat.le_refl _) (.cells #[.int .i64 0, .slice none 0 0] 24))⟩
end Go.Proofs.Ytchlmcpnjpllnaa
