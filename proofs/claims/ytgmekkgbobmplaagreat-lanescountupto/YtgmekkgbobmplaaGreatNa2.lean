/- Texts laid together: PkN DsB BaC CoA CoB CoC CoD CoE MwA MwB PkB. -/
import Derived.Test.YtgmekkgbobmplaaGreatNa1
import Derived.Deep.QuietTactic
import Derived.Laws.MakeOwn
import Derived.Maps.AppendAt
import Derived.Lib.AppendStr
import Derived.Deep.AppendSrc
/- The contracts of package pack's writers of numbers. -/
namespace Go.Proofs.YtgmekkgbobmplaaGreat
open Go.RowKit

theorem kept_none {b : Nat} {r : Option Nat} {w w' : World} (h : Kept b none w w') : Kept b r w w' := ⟨h.os, h.tape, h.output, h.size, fun k hk hb _ => h.block k hk hb (by simp)⟩

/-- Is the number one of so many bytes? -/
def inR (s : Nat) (n : Int) : Bool := decide (0 ≤ n ∧ n < ((256 ^ s : Nat) : Int))
/-- The error behind a number of so many bytes; the bytes. -/
def wE (lim : Int) (l : List UInt8) (er : Int) (s : Nat) (n : Int) : Int := adm lim l.length er (inR s n) s
def wL (lim : Int) (l : List UInt8) (er : Int) (s : Nat) (n : Int) : List UInt8 := if adm lim l.length er (inR s n) s = 0 then l ++ be s n.toNat else l

set_option maxRecDepth 100000 in
set_option maxHeartbeats 800000 in
theorem wnum1_yes (b : Nat) (v : Value) (lim : Int) (l : List UInt8) (er : Int) (m : Nat) (w : World) (h : WrAt w b v lim l er)
    (h0 : 0 ≤ lim) (h1 : lim ≤ 9223372036854775807) (hl : l.length + 8 ≤ 140737488355328) (n1 : m < 256) (hd : adm lim l.length er true 1 = 0) :
    Calls Tryz.prog 144 #[.pointer (some ⟨b, 0, none⟩), .int .i64 m, .int .i64 1] w fun e w' => e = .returned (.tuple #[]) ∧ ∃ v', WrAt w' b v' lim (l ++ be 1 m) 0 ∧ Kept b v.ownBlock w w' ∧ Moved w v v' := by
  have hn : ((m : Int) / 256 == 0) = true := by simp; omega
  have ha := admits_any b v lim l er true 1 w h h0 h1 (by omega)
  have hdd : decide (adm lim l.length er true 1 = 0) = true := by simpa using hd
  rw [hdd, hd] at ha
  have HA := hid ha
  have HL := hid hl
  have hm0 : (0 : Int) ≤ (m : Int) := Int.natCast_nonneg _
  have hm1 : (m : Int) ≤ 4294967296 := by omega
  have HM : Hid (m < 18446744073709551616) := by unfold Hid; omega
  clear ha h hd hdd hl n1 h0 h1
  go_enter Tryz.func144, Tryz.ntmps144
  go_wp2_with fail
  refine HA.out.mono ?_
  rintro e w1 ⟨rfl, hr, hk⟩
  have HR := hid hr
  have HK := hid hk
  clear hr hk hn
  go_wp2_with fail
  refine (put_any b v lim l 0 m 1 w1 HR.out (by omega) HM.out HL.out).mono ?_
  rintro e w2 ⟨rfl, v', hv, hk2, hm⟩
  have HV := hid hv
  have HK2 := hid (And.intro hk2 hm)
  clear hv hk2 hm
  go_wp2
  go_end0
  exact ⟨rfl, v', HV.out, (kept_none HK.out).trans HK2.out.1 (.inl rfl), (Moved.refl w v).trans HK2.out.2 HK.out.size⟩

set_option maxRecDepth 100000 in
set_option maxHeartbeats 800000 in
theorem wnum1_no (b : Nat) (v : Value) (lim : Int) (l : List UInt8) (er : Int) (m : Nat) (w : World) (h : WrAt w b v lim l er)
    (h0 : 0 ≤ lim) (h1 : lim ≤ 9223372036854775807) (hl : l.length + 8 ≤ 140737488355328) (n1 : m < 256) (E : Int) (hE : adm lim l.length er true 1 = E) (hd : E ≠ 0) :
    Calls Tryz.prog 144 #[.pointer (some ⟨b, 0, none⟩), .int .i64 m, .int .i64 1] w fun e w' => e = .returned (.tuple #[]) ∧ ∃ v', WrAt w' b v' lim l E ∧ Kept b v.ownBlock w w' ∧ Moved w v v' := by
  have hn : ((m : Int) / 256 == 0) = true := by simp; omega
  have ha := admits_any b v lim l er true 1 w h h0 h1 (by omega)
  have hdd : decide (E = 0) = false := by simpa using hd
  rw [hE, hdd] at ha
  have HA := hid ha
  have hm0 : (0 : Int) ≤ (m : Int) := Int.natCast_nonneg _
  have hm1 : (m : Int) ≤ 4294967296 := by omega
  clear ha h hE hd hdd hl n1 h0 h1
  go_enter Tryz.func144, Tryz.ntmps144
  go_wp2_with fail
  refine HA.out.mono ?_
  rintro e w1 ⟨rfl, hr, hk⟩
  have HR := hid hr
  have HK := hid hk
  clear hr hk hn
  go_wp2
  go_end0
  exact ⟨rfl, v, HR.out, kept_none HK.out, Moved.refl _ _⟩

set_option maxRecDepth 100000 in
set_option maxHeartbeats 800000 in
theorem wnum1_out (b : Nat) (v : Value) (lim : Int) (l : List UInt8) (er : Int) (n : Int) (w : World) (h : WrAt w b v lim l er)
    (h0 : 0 ≤ lim) (h1 : lim ≤ 9223372036854775807) (hl : l.length + 8 ≤ 140737488355328) (hi : n ≤ 9223372036854775807) (hn : n < 0 ∨ 256 ≤ n) (E : Int) (hE : adm lim l.length er false 1 = E) :
    Calls Tryz.prog 144 #[.pointer (some ⟨b, 0, none⟩), .int .i64 n, .int .i64 1] w fun e w' => e = .returned (.tuple #[]) ∧ ∃ v', WrAt w' b v' lim l E ∧ Kept b v.ownBlock w w' ∧ Moved w v v' := by
  have ha := admits_any b v lim l er false 1 w h h0 h1 (by omega)
  have hd : ¬ E = 0 := by rw [← hE]; unfold adm; split <;> simp_all
  have hdd : decide (E = 0) = false := by simpa using hd
  rw [hE, hdd] at ha
  have HA := hid ha
  clear ha h hd hdd hE hl h0 h1
  rcases hn with hn | hn
  · go_enter Tryz.func144, Tryz.ntmps144
    go_wp2_with fail
    refine HA.out.mono ?_
    rintro e w1 ⟨rfl, hr, hk⟩
    have HR := hid hr
    have HK := hid hk
    clear hr hk
    go_wp2
    go_end0
    exact ⟨rfl, v, HR.out, kept_none HK.out, Moved.refl _ _⟩
  · have hq : (n / 256 == 0) = false := by simp; omega
    have hn0 : 0 ≤ n := by omega
    clear hn
    go_enter Tryz.func144, Tryz.ntmps144
    go_wp2_with fail
    refine HA.out.mono ?_
    rintro e w1 ⟨rfl, hr, hk⟩
    have HR := hid hr
    have HK := hid hk
    clear hr hk hq
    go_wp2
    go_end0
    exact ⟨rfl, v, HR.out, kept_none HK.out, Moved.refl _ _⟩

theorem wnum1_any (b : Nat) (v : Value) (lim : Int) (l : List UInt8) (er : Int) (n : Int) (w : World) (h : WrAt w b v lim l er)
    (h0 : 0 ≤ lim) (h1 : lim ≤ 9223372036854775807) (hl : l.length + 8 ≤ 140737488355328) (hi : n ≤ 9223372036854775807) :
    Calls Tryz.prog 144 #[.pointer (some ⟨b, 0, none⟩), .int .i64 n, .int .i64 1] w fun e w' => e = .returned (.tuple #[]) ∧ ∃ v', WrAt w' b v' lim (wL lim l er 1 n) (wE lim l er 1 n) ∧ Kept b v.ownBlock w w' ∧ Moved w v v' := by
  unfold wL wE inR
  by_cases hn : 0 ≤ n ∧ n < 256
  · have e : decide (0 ≤ n ∧ n < ((256 ^ 1 : Nat) : Int)) = true := by simp; omega
    rw [e]
    obtain ⟨m, rfl⟩ : ∃ m : Nat, n = m := ⟨n.toNat, by omega⟩
    by_cases hd : adm lim l.length er true 1 = 0
    · have := wnum1_yes b v lim l er m w h h0 h1 hl (by omega) hd
      simpa [hd] using this
    · have := wnum1_no b v lim l er m w h h0 h1 hl (by omega) _ rfl hd
      simpa [hd] using this
  · have e : decide (0 ≤ n ∧ n < ((256 ^ 1 : Nat) : Int)) = false := by simp; omega
    rw [e]
    have hd : ¬ adm lim l.length er false 1 = 0 := by unfold adm; split <;> simp_all
    have := wnum1_out b v lim l er n w h h0 h1 hl hi (by omega) _ rfl
    simpa [hd] using this

set_option maxRecDepth 100000 in
set_option maxHeartbeats 800000 in
theorem wnum2_yes (b : Nat) (v : Value) (lim : Int) (l : List UInt8) (er : Int) (m : Nat) (w : World) (h : WrAt w b v lim l er)
    (h0 : 0 ≤ lim) (h1 : lim ≤ 9223372036854775807) (hl : l.length + 8 ≤ 140737488355328) (n1 : m < 65536) (hd : adm lim l.length er true 2 = 0) :
    Calls Tryz.prog 144 #[.pointer (some ⟨b, 0, none⟩), .int .i64 m, .int .i64 2] w fun e w' => e = .returned (.tuple #[]) ∧ ∃ v', WrAt w' b v' lim (l ++ be 2 m) 0 ∧ Kept b v.ownBlock w w' ∧ Moved w v v' := by
  have hn : ((m : Int) / 65536 == 0) = true := by simp; omega
  have ha := admits_any b v lim l er true 2 w h h0 h1 (by omega)
  have hdd : decide (adm lim l.length er true 2 = 0) = true := by simpa using hd
  rw [hdd, hd] at ha
  have HA := hid ha
  have HL := hid hl
  have hm0 : (0 : Int) ≤ (m : Int) := Int.natCast_nonneg _
  have hm1 : (m : Int) ≤ 4294967296 := by omega
  have HM : Hid (m < 18446744073709551616) := by unfold Hid; omega
  clear ha h hd hdd hl n1 h0 h1
  go_enter Tryz.func144, Tryz.ntmps144
  go_wp2_with fail
  refine HA.out.mono ?_
  rintro e w1 ⟨rfl, hr, hk⟩
  have HR := hid hr
  have HK := hid hk
  clear hr hk hn
  go_wp2_with fail
  refine (put_any b v lim l 0 m 2 w1 HR.out (by omega) HM.out HL.out).mono ?_
  rintro e w2 ⟨rfl, v', hv, hk2, hm⟩
  have HV := hid hv
  have HK2 := hid (And.intro hk2 hm)
  clear hv hk2 hm
  go_wp2
  go_end0
  exact ⟨rfl, v', HV.out, (kept_none HK.out).trans HK2.out.1 (.inl rfl), (Moved.refl w v).trans HK2.out.2 HK.out.size⟩

set_option maxRecDepth 100000 in
set_option maxHeartbeats 800000 in
theorem wnum2_no (b : Nat) (v : Value) (lim : Int) (l : List UInt8) (er : Int) (m : Nat) (w : World) (h : WrAt w b v lim l er)
    (h0 : 0 ≤ lim) (h1 : lim ≤ 9223372036854775807) (hl : l.length + 8 ≤ 140737488355328) (n1 : m < 65536) (E : Int) (hE : adm lim l.length er true 2 = E) (hd : E ≠ 0) :
    Calls Tryz.prog 144 #[.pointer (some ⟨b, 0, none⟩), .int .i64 m, .int .i64 2] w fun e w' => e = .returned (.tuple #[]) ∧ ∃ v', WrAt w' b v' lim l E ∧ Kept b v.ownBlock w w' ∧ Moved w v v' := by
  have hn : ((m : Int) / 65536 == 0) = true := by simp; omega
  have ha := admits_any b v lim l er true 2 w h h0 h1 (by omega)
  have hdd : decide (E = 0) = false := by simpa using hd
  rw [hE, hdd] at ha
  have HA := hid ha
  have hm0 : (0 : Int) ≤ (m : Int) := Int.natCast_nonneg _
  have hm1 : (m : Int) ≤ 4294967296 := by omega
  clear ha h hE hd hdd hl n1 h0 h1
  go_enter Tryz.func144, Tryz.ntmps144
  go_wp2_with fail
  refine HA.out.mono ?_
  rintro e w1 ⟨rfl, hr, hk⟩
  have HR := hid hr
  have HK := hid hk
  clear hr hk hn
  go_wp2
  go_end0
  exact ⟨rfl, v, HR.out, kept_none HK.out, Moved.refl _ _⟩

set_option maxRecDepth 100000 in
set_option maxHeartbeats 800000 in
theorem wnum2_out (b : Nat) (v : Value) (lim : Int) (l : List UInt8) (er : Int) (n : Int) (w : World) (h : WrAt w b v lim l er)
    (h0 : 0 ≤ lim) (h1 : lim ≤ 9223372036854775807) (hl : l.length + 8 ≤ 140737488355328) (hi : n ≤ 9223372036854775807) (hn : n < 0 ∨ 65536 ≤ n) (E : Int) (hE : adm lim l.length er false 2 = E) :
    Calls Tryz.prog 144 #[.pointer (some ⟨b, 0, none⟩), .int .i64 n, .int .i64 2] w fun e w' => e = .returned (.tuple #[]) ∧ ∃ v', WrAt w' b v' lim l E ∧ Kept b v.ownBlock w w' ∧ Moved w v v' := by
  have ha := admits_any b v lim l er false 2 w h h0 h1 (by omega)
  have hd : ¬ E = 0 := by rw [← hE]; unfold adm; split <;> simp_all
  have hdd : decide (E = 0) = false := by simpa using hd
  rw [hE, hdd] at ha
  have HA := hid ha
  clear ha h hd hdd hE hl h0 h1
  rcases hn with hn | hn
  · go_enter Tryz.func144, Tryz.ntmps144
    go_wp2_with fail
    refine HA.out.mono ?_
    rintro e w1 ⟨rfl, hr, hk⟩
    have HR := hid hr
    have HK := hid hk
    clear hr hk
    go_wp2
    go_end0
    exact ⟨rfl, v, HR.out, kept_none HK.out, Moved.refl _ _⟩
  · have hq : (n / 65536 == 0) = false := by simp; omega
    have hn0 : 0 ≤ n := by omega
    clear hn
    go_enter Tryz.func144, Tryz.ntmps144
    go_wp2_with fail
    refine HA.out.mono ?_
    rintro e w1 ⟨rfl, hr, hk⟩
    have HR := hid hr
    have HK := hid hk
    clear hr hk hq
    go_wp2
    go_end0
    exact ⟨rfl, v, HR.out, kept_none HK.out, Moved.refl _ _⟩

theorem wnum2_any (b : Nat) (v : Value) (lim : Int) (l : List UInt8) (er : Int) (n : Int) (w : World) (h : WrAt w b v lim l er)
    (h0 : 0 ≤ lim) (h1 : lim ≤ 9223372036854775807) (hl : l.length + 8 ≤ 140737488355328) (hi : n ≤ 9223372036854775807) :
    Calls Tryz.prog 144 #[.pointer (some ⟨b, 0, none⟩), .int .i64 n, .int .i64 2] w fun e w' => e = .returned (.tuple #[]) ∧ ∃ v', WrAt w' b v' lim (wL lim l er 2 n) (wE lim l er 2 n) ∧ Kept b v.ownBlock w w' ∧ Moved w v v' := by
  unfold wL wE inR
  by_cases hn : 0 ≤ n ∧ n < 65536
  · have e : decide (0 ≤ n ∧ n < ((256 ^ 2 : Nat) : Int)) = true := by simp; omega
    rw [e]
    obtain ⟨m, rfl⟩ : ∃ m : Nat, n = m := ⟨n.toNat, by omega⟩
    by_cases hd : adm lim l.length er true 2 = 0
    · have := wnum2_yes b v lim l er m w h h0 h1 hl (by omega) hd
      simpa [hd] using this
    · have := wnum2_no b v lim l er m w h h0 h1 hl (by omega) _ rfl hd
      simpa [hd] using this
  · have e : decide (0 ≤ n ∧ n < ((256 ^ 2 : Nat) : Int)) = false := by simp; omega
    rw [e]
    have hd : ¬ adm lim l.length er false 2 = 0 := by unfold adm; split <;> simp_all
    have := wnum2_out b v lim l er n w h h0 h1 hl hi (by omega) _ rfl
    simpa [hd] using this

set_option maxRecDepth 100000 in
set_option maxHeartbeats 800000 in
theorem wnum4_yes (b : Nat) (v : Value) (lim : Int) (l : List UInt8) (er : Int) (m : Nat) (w : World) (h : WrAt w b v lim l er)
    (h0 : 0 ≤ lim) (h1 : lim ≤ 9223372036854775807) (hl : l.length + 8 ≤ 140737488355328) (n1 : m < 4294967296) (hd : adm lim l.length er true 4 = 0) :
    Calls Tryz.prog 144 #[.pointer (some ⟨b, 0, none⟩), .int .i64 m, .int .i64 4] w fun e w' => e = .returned (.tuple #[]) ∧ ∃ v', WrAt w' b v' lim (l ++ be 4 m) 0 ∧ Kept b v.ownBlock w w' ∧ Moved w v v' := by
  have hn : ((m : Int) / 4294967296 == 0) = true := by simp; omega
  have ha := admits_any b v lim l er true 4 w h h0 h1 (by omega)
  have hdd : decide (adm lim l.length er true 4 = 0) = true := by simpa using hd
  rw [hdd, hd] at ha
  have HA := hid ha
  have HL := hid hl
  have hm0 : (0 : Int) ≤ (m : Int) := Int.natCast_nonneg _
  have hm1 : (m : Int) ≤ 4294967296 := by omega
  have HM : Hid (m < 18446744073709551616) := by unfold Hid; omega
  clear ha h hd hdd hl n1 h0 h1
  go_enter Tryz.func144, Tryz.ntmps144
  go_wp2_with fail
  refine HA.out.mono ?_
  rintro e w1 ⟨rfl, hr, hk⟩
  have HR := hid hr
  have HK := hid hk
  clear hr hk hn
  go_wp2_with fail
  refine (put_any b v lim l 0 m 4 w1 HR.out (by omega) HM.out HL.out).mono ?_
  rintro e w2 ⟨rfl, v', hv, hk2, hm⟩
  have HV := hid hv
  have HK2 := hid (And.intro hk2 hm)
  clear hv hk2 hm
  go_wp2
  go_end0
  exact ⟨rfl, v', HV.out, (kept_none HK.out).trans HK2.out.1 (.inl rfl), (Moved.refl w v).trans HK2.out.2 HK.out.size⟩

set_option maxRecDepth 100000 in
set_option maxHeartbeats 800000 in
theorem wnum4_no (b : Nat) (v : Value) (lim : Int) (l : List UInt8) (er : Int) (m : Nat) (w : World) (h : WrAt w b v lim l er)
    (h0 : 0 ≤ lim) (h1 : lim ≤ 9223372036854775807) (hl : l.length + 8 ≤ 140737488355328) (n1 : m < 4294967296) (E : Int) (hE : adm lim l.length er true 4 = E) (hd : E ≠ 0) :
    Calls Tryz.prog 144 #[.pointer (some ⟨b, 0, none⟩), .int .i64 m, .int .i64 4] w fun e w' => e = .returned (.tuple #[]) ∧ ∃ v', WrAt w' b v' lim l E ∧ Kept b v.ownBlock w w' ∧ Moved w v v' := by
  have hn : ((m : Int) / 4294967296 == 0) = true := by simp; omega
  have ha := admits_any b v lim l er true 4 w h h0 h1 (by omega)
  have hdd : decide (E = 0) = false := by simpa using hd
  rw [hE, hdd] at ha
  have HA := hid ha
  have hm0 : (0 : Int) ≤ (m : Int) := Int.natCast_nonneg _
  have hm1 : (m : Int) ≤ 4294967296 := by omega
  clear ha h hE hd hdd hl n1 h0 h1
  go_enter Tryz.func144, Tryz.ntmps144
  go_wp2_with fail
  refine HA.out.mono ?_
  rintro e w1 ⟨rfl, hr, hk⟩
  have HR := hid hr
  have HK := hid hk
  clear hr hk hn
  go_wp2
  go_end0
  exact ⟨rfl, v, HR.out, kept_none HK.out, Moved.refl _ _⟩

set_option maxRecDepth 100000 in
set_option maxHeartbeats 800000 in
theorem wnum4_out (b : Nat) (v : Value) (lim : Int) (l : List UInt8) (er : Int) (n : Int) (w : World) (h : WrAt w b v lim l er)
    (h0 : 0 ≤ lim) (h1 : lim ≤ 9223372036854775807) (hl : l.length + 8 ≤ 140737488355328) (hi : n ≤ 9223372036854775807) (hn : n < 0 ∨ 4294967296 ≤ n) (E : Int) (hE : adm lim l.length er false 4 = E) :
    Calls Tryz.prog 144 #[.pointer (some ⟨b, 0, none⟩), .int .i64 n, .int .i64 4] w fun e w' => e = .returned (.tuple #[]) ∧ ∃ v', WrAt w' b v' lim l E ∧ Kept b v.ownBlock w w' ∧ Moved w v v' := by
  have ha := admits_any b v lim l er false 4 w h h0 h1 (by omega)
  have hd : ¬ E = 0 := by rw [← hE]; unfold adm; split <;> simp_all
  have hdd : decide (E = 0) = false := by simpa using hd
  rw [hE, hdd] at ha
  have HA := hid ha
  clear ha h hd hdd hE hl h0 h1
  rcases hn with hn | hn
  · go_enter Tryz.func144, Tryz.ntmps144
    go_wp2_with fail
    refine HA.out.mono ?_
    rintro e w1 ⟨rfl, hr, hk⟩
    have HR := hid hr
    have HK := hid hk
    clear hr hk
    go_wp2
    go_end0
    exact ⟨rfl, v, HR.out, kept_none HK.out, Moved.refl _ _⟩
  · have hq : (n / 4294967296 == 0) = false := by simp; omega
    have hn0 : 0 ≤ n := by omega
    clear hn
    go_enter Tryz.func144, Tryz.ntmps144
    go_wp2_with fail
    refine HA.out.mono ?_
    rintro e w1 ⟨rfl, hr, hk⟩
    have HR := hid hr
    have HK := hid hk
    clear hr hk hq
    go_wp2
    go_end0
    exact ⟨rfl, v, HR.out, kept_none HK.out, Moved.refl _ _⟩

theorem wnum4_any (b : Nat) (v : Value) (lim : Int) (l : List UInt8) (er : Int) (n : Int) (w : World) (h : WrAt w b v lim l er)
    (h0 : 0 ≤ lim) (h1 : lim ≤ 9223372036854775807) (hl : l.length + 8 ≤ 140737488355328) (hi : n ≤ 9223372036854775807) :
    Calls Tryz.prog 144 #[.pointer (some ⟨b, 0, none⟩), .int .i64 n, .int .i64 4] w fun e w' => e = .returned (.tuple #[]) ∧ ∃ v', WrAt w' b v' lim (wL lim l er 4 n) (wE lim l er 4 n) ∧ Kept b v.ownBlock w w' ∧ Moved w v v' := by
  unfold wL wE inR
  by_cases hn : 0 ≤ n ∧ n < 4294967296
  · have e : decide (0 ≤ n ∧ n < ((256 ^ 4 : Nat) : Int)) = true := by simp; omega
    rw [e]
    obtain ⟨m, rfl⟩ : ∃ m : Nat, n = m := ⟨n.toNat, by omega⟩
    by_cases hd : adm lim l.length er true 4 = 0
    · have := wnum4_yes b v lim l er m w h h0 h1 hl (by omega) hd
      simpa [hd] using this
    · have := wnum4_no b v lim l er m w h h0 h1 hl (by omega) _ rfl hd
      simpa [hd] using this
  · have e : decide (0 ≤ n ∧ n < ((256 ^ 4 : Nat) : Int)) = false := by simp; omega
    rw [e]
    have hd : ¬ adm lim l.length er false 4 = 0 := by unfold adm; split <;> simp_all
    have := wnum4_out b v lim l er n w h h0 h1 hl hi (by omega) _ rfl
    simpa [hd] using this

theorem wnum1_nil (n : Int) (w : World) : Calls Tryz.prog 144 #[.pointer none, .int .i64 n, .int .i64 1] w fun e w' => e = .returned (.tuple #[]) ∧ w' = w := by
  by_cases hn : 0 ≤ n
  · go_enter Tryz.func144, Tryz.ntmps144
    go_wp2_with (go_at_call 146; refine (admits_nil _ _ _).mono ?_; rintro e w1 ⟨rfl, rfl⟩)
    go_end0
    exact ⟨rfl, rfl⟩
  · go_enter Tryz.func144, Tryz.ntmps144
    go_wp2_with (go_at_call 146; refine (admits_nil _ _ _).mono ?_; rintro e w1 ⟨rfl, rfl⟩)
    go_end0
    exact ⟨rfl, rfl⟩

theorem wnum2_nil (n : Int) (w : World) : Calls Tryz.prog 144 #[.pointer none, .int .i64 n, .int .i64 2] w fun e w' => e = .returned (.tuple #[]) ∧ w' = w := by
  by_cases hn : 0 ≤ n
  · go_enter Tryz.func144, Tryz.ntmps144
    go_wp2_with (go_at_call 146; refine (admits_nil _ _ _).mono ?_; rintro e w1 ⟨rfl, rfl⟩)
    go_end0
    exact ⟨rfl, rfl⟩
  · go_enter Tryz.func144, Tryz.ntmps144
    go_wp2_with (go_at_call 146; refine (admits_nil _ _ _).mono ?_; rintro e w1 ⟨rfl, rfl⟩)
    go_end0
    exact ⟨rfl, rfl⟩

theorem wnum4_nil (n : Int) (w : World) : Calls Tryz.prog 144 #[.pointer none, .int .i64 n, .int .i64 4] w fun e w' => e = .returned (.tuple #[]) ∧ w' = w := by
  by_cases hn : 0 ≤ n
  · go_enter Tryz.func144, Tryz.ntmps144
    go_wp2_with (go_at_call 146; refine (admits_nil _ _ _).mono ?_; rintro e w1 ⟨rfl, rfl⟩)
    go_end0
    exact ⟨rfl, rfl⟩
  · go_enter Tryz.func144, Tryz.ntmps144
    go_wp2_with (go_at_call 146; refine (admits_nil _ _ _).mono ?_; rintro e w1 ⟨rfl, rfl⟩)
    go_end0
    exact ⟨rfl, rfl⟩

set_option maxHeartbeats 400000 in
theorem wbyte_any (b : Nat) (v : Value) (lim : Int) (l : List UInt8) (er : Int) (n : Int) (w : World) (h : WrAt w b v lim l er)
    (h0 : 0 ≤ lim) (h1 : lim ≤ 9223372036854775807) (hl : l.length + 8 ≤ 140737488355328) (hi : n ≤ 9223372036854775807) :
    Calls Tryz.prog 114 #[.pointer (some ⟨b, 0, none⟩), .int .i64 n] w fun e w' => e = .returned (.tuple #[]) ∧ ∃ v', WrAt w' b v' lim (wL lim l er 1 n) (wE lim l er 1 n) ∧ Kept b v.ownBlock w w' ∧ Moved w v v' := by
  have hc := hid (wnum1_any b v lim l er n w h h0 h1 hl hi)
  clear h
  go_enter Tryz.func114, Tryz.ntmps114
  go_wp2_with fail
  refine hc.out.mono ?_
  rintro e w1 ⟨rfl, hr⟩
  have HR := hid hr
  clear hr
  go_wp2
  go_end0
  exact ⟨rfl, HR.out⟩

theorem wbyte_nil (n : Int) (w : World) : Calls Tryz.prog 114 #[.pointer none, .int .i64 n] w fun e w' => e = .returned (.tuple #[]) ∧ w' = w := by
  go_enter Tryz.func114, Tryz.ntmps114
  go_wp2_with (go_at_call 144; refine (wnum1_nil _ _).mono ?_; rintro e w1 ⟨rfl, rfl⟩)
  go_end0
  exact ⟨rfl, rfl⟩

set_option maxHeartbeats 400000 in
theorem wword_any (b : Nat) (v : Value) (lim : Int) (l : List UInt8) (er : Int) (n : Int) (w : World) (h : WrAt w b v lim l er)
    (h0 : 0 ≤ lim) (h1 : lim ≤ 9223372036854775807) (hl : l.length + 8 ≤ 140737488355328) (hi : n ≤ 9223372036854775807) :
    Calls Tryz.prog 115 #[.pointer (some ⟨b, 0, none⟩), .int .i64 n] w fun e w' => e = .returned (.tuple #[]) ∧ ∃ v', WrAt w' b v' lim (wL lim l er 2 n) (wE lim l er 2 n) ∧ Kept b v.ownBlock w w' ∧ Moved w v v' := by
  have hc := hid (wnum2_any b v lim l er n w h h0 h1 hl hi)
  clear h
  go_enter Tryz.func115, Tryz.ntmps115
  go_wp2_with fail
  refine hc.out.mono ?_
  rintro e w1 ⟨rfl, hr⟩
  have HR := hid hr
  clear hr
  go_wp2
  go_end0
  exact ⟨rfl, HR.out⟩

theorem wword_nil (n : Int) (w : World) : Calls Tryz.prog 115 #[.pointer none, .int .i64 n] w fun e w' => e = .returned (.tuple #[]) ∧ w' = w := by
  go_enter Tryz.func115, Tryz.ntmps115
  go_wp2_with (go_at_call 144; refine (wnum2_nil _ _).mono ?_; rintro e w1 ⟨rfl, rfl⟩)
  go_end0
  exact ⟨rfl, rfl⟩

set_option maxHeartbeats 400000 in
theorem wlong_any (b : Nat) (v : Value) (lim : Int) (l : List UInt8) (er : Int) (n : Int) (w : World) (h : WrAt w b v lim l er)
    (h0 : 0 ≤ lim) (h1 : lim ≤ 9223372036854775807) (hl : l.length + 8 ≤ 140737488355328) (hi : n ≤ 9223372036854775807) :
    Calls Tryz.prog 157 #[.pointer (some ⟨b, 0, none⟩), .int .i64 n] w fun e w' => e = .returned (.tuple #[]) ∧ ∃ v', WrAt w' b v' lim (wL lim l er 4 n) (wE lim l er 4 n) ∧ Kept b v.ownBlock w w' ∧ Moved w v v' := by
  have hc := hid (wnum4_any b v lim l er n w h h0 h1 hl hi)
  clear h
  go_enter Tryz.func157, Tryz.ntmps157
  go_wp2_with fail
  refine hc.out.mono ?_
  rintro e w1 ⟨rfl, hr⟩
  have HR := hid hr
  clear hr
  go_wp2
  go_end0
  exact ⟨rfl, HR.out⟩

theorem wlong_nil (n : Int) (w : World) : Calls Tryz.prog 157 #[.pointer none, .int .i64 n] w fun e w' => e = .returned (.tuple #[]) ∧ w' = w := by
  go_enter Tryz.func157, Tryz.ntmps157
  go_wp2_with (go_at_call 144; refine (wnum4_nil _ _).mono ?_; rintro e w1 ⟨rfl, rfl⟩)
  go_end0
  exact ⟨rfl, rfl⟩

end Go.Proofs.YtgmekkgbobmplaaGreat

/- Results and their texts; what is prepared, states, and their texts; that these part. No walk here. -/
namespace Go.Proofs.YtgmekkgbobmplaaGreat
open Go.RowKit

def rsB (c : Int) : Bool := decide (0 ≤ c) && decide (c ≤ 8)
def rsL (c : Int) (f : Nat) : List UInt8 := be 1 c.toNat ++ be 8 (canW f)
def rsT (c : Int) (f : Nat) : ByteArray := if rsB c then ⟨(rsL c f).toArray⟩ else ⟨#[]⟩
def rsE (c : Int) : Int := if rsB c then 0 else 1
def rsCode (t : ByteArray) : Nat := rN t false 1
def rsBits (t : ByteArray) : Nat := rN (rd1 t).s (rd1 t).sh 8
def rsEnd (t : ByteArray) : Rd := (rd1 t).num 8
def okRs (t : ByteArray) : Bool := ((canW (rsBits t) == rsBits t) && decide (endOf (rsEnd t).s (rsEnd t).sh = 0)) && decide (rsCode t ≤ 8)
def rsC (t : ByteArray) : Int := if okRs t then rsCode t else 0
def rsF (t : ByteArray) : Nat := if okRs t then fromW (rsBits t) else 0
def rsR (t : ByteArray) : Int := if okRs t then 0 else 5
def sameS (c : Int) (f : Nat) (c' : Int) (f' : Nat) : Bool := decide (c = c') && decide (canW f = canW f')
theorem rs_back {c : Int} {f : Nat} (h : rsB c = true) (hf : f < 18446744073709551616) : okRs (rsT c f) = true ∧ rsC (rsT c f) = c ∧ rsF (rsT c f) = canW f := by
  simp only [rsB, Bool.and_eq_true, decide_eq_true_eq] at h
  have hT : (rsT c f).data.toList = rsL c f := by
    rw [rsT, if_pos (by simp only [rsB, Bool.and_eq_true, decide_eq_true_eq]; exact h)]
  generalize rsT c f = t at hT ⊢
  have e1 := rd_good t 1 c.toNat _ hT (by omega)
  have q1 : rd1 t = ⟨rS t false 1, false⟩ := by rw [rd1, Rd.num, e1.2.2]
  have h1 := e1.2.1
  generalize rS t false 1 = s1 at q1 h1
  have e2 := rd_good s1 8 (canW f) [] (by rw [List.append_nil]; exact h1) (canW_lt hf)
  have hb : rsBits t = canW f := by rw [rsBits, q1]; exact e2.1
  have he : endOf (rsEnd t).s (rsEnd t).sh = 0 := by rw [rsEnd, q1, Rd.num, e2.2.2]; exact end_of e2.2.1
  have hc : rsCode t = c.toNat := e1.1
  have hok : okRs t = true := by
    rw [okRs, hb, he, hc, canW_idem]
    simp
    omega
  refine ⟨hok, ?_, ?_⟩
  · rw [rsC, if_pos hok, hc, Int.toNat_of_nonneg h.1]
  · rw [rsF, if_pos hok, hb, fromW_can]
theorem rs_told {t : ByteArray} (h : okRs t = true) : rsB (rsC t) = true ∧ rsT (rsC t) (rsF t) = t ∧ rsF t < 18446744073709551616 := by
  have hc : rsC t = rsCode t := by rw [rsC, if_pos h]
  have hf : rsF t = fromW (rsBits t) := by rw [rsF, if_pos h]
  simp only [okRs, Bool.and_eq_true, decide_eq_true_eq] at h
  obtain ⟨⟨h1, h2⟩, h3⟩ := h
  obtain ⟨f1, f2⟩ := fromW_ok h1
  obtain ⟨g2, z2⟩ := end_ok h2
  obtain ⟨g1, z1⟩ := rd_back (rd1 t).s (rd1 t).sh 8 g2
  obtain ⟨_, z0⟩ := rd_back t false 1 g1
  have hB : rsB (rsC t) = true := by
    rw [hc]
    simp only [rsB, Bool.and_eq_true, decide_eq_true_eq]
    omega
  refine ⟨hB, ?_, ?_⟩
  · rw [rsT, if_pos hB]
    apply ByteArray.ext
    apply Array.ext'
    show rsL (rsC t) (rsF t) = t.data.toList
    rw [rsL, hc, hf, f1, f2, z0, Int.toNat_natCast]
    refine congrArg (be 1 (rsCode t) ++ ·) ?_
    refine Eq.trans ?_ z1.symm
    rw [show (rS (rd1 t).s (rd1 t).sh 8).data.toList = [] from z2, List.append_nil]
    rfl
  · rw [hf, f1]
    exact rN_lt (rd1 t).s (rd1 t).sh 8
/-- What is prepared. -/
def spB (e v s : Int) : Bool := (inR 4 e && inR 4 v) && inR 4 s
def prL (e v s : Int) : List UInt8 := be 1 80 ++ (be 4 e.toNat ++ (be 4 v.toNat ++ be 4 s.toNat))
def prT (e v s : Int) (r : Rq) : ByteArray := if rqE r = 0 then (if spB e v s then ⟨(prL e v s ++ (rqT r).data.toList).toArray⟩ else ⟨#[]⟩) else ⟨#[]⟩
def prE (e v s : Int) (r : Rq) : Int := if rqE r = 0 then (if spB e v s then 0 else 1) else 1
/-- A state. -/
def stT (s : Int) (x : ByteArray) : ByteArray := if inR 4 s then ⟨(be 1 83 ++ be 4 s.toNat ++ x.data.toList).toArray⟩ else ⟨#[]⟩
def stE (s : Int) : Int := if inR 4 s then 0 else 1
theorem inR4 {n : Int} (h : inR 4 n = true) : 0 ≤ n ∧ n < 4294967296 := by
  have := of_decide_eq_true h
  simpa using this
theorem be_inj {n a b : Nat} (ha : a < 256 ^ n) (hb : b < 256 ^ n) (h : be n a = be n b) : a = b := by
  have := congrArg val h
  rw [val_be, val_be, Nat.mod_eq_of_lt ha, Nat.mod_eq_of_lt hb] at this
  exact this
theorem prE_ok {e v s : Int} {r : Rq} (h : prE e v s r = 0) : rqE r = 0 ∧ inR 4 e = true ∧ inR 4 v = true ∧ inR 4 s = true ∧ (prT e v s r).data.toList = prL e v s ++ (rqT r).data.toList := by
  unfold prE at h
  split at h
  · next h1 =>
    split at h
    · next h2 =>
      have h3 := h2
      rw [spB, Bool.and_eq_true_iff, Bool.and_eq_true_iff] at h3
      exact ⟨h1, h3.1.1, h3.1.2, h3.2, by rw [prT, if_pos h1, if_pos h2]⟩
    · cases h
  · cases h
theorem prE_bad {e v s : Int} {r : Rq} (h : prE e v s r ≠ 0) : prT e v s r = ⟨#[]⟩ := by
  unfold prE at h
  unfold prT
  split
  · next h1 =>
    rw [if_pos h1] at h
    split
    · next h2 => rw [if_pos h2] at h; exact absurd rfl h
    · rfl
  · rfl
/-- What is prepared elsewhere, or is another request, has another text. -/
theorem pr_parts {e v s : Int} {r : Rq} {e' v' s' : Int} {r' : Rq} (h : prE e v s r = 0) (h' : prE e' v' s' r' = 0) : prT e v s r = prT e' v' s' r' ↔ (e = e' ∧ v = v' ∧ s = s' ∧ rqT r = rqT r') := by
  obtain ⟨_, a1, a2, a3, a4⟩ := prE_ok h
  obtain ⟨_, b1, b2, b3, b4⟩ := prE_ok h'
  have c1 := inR4 a1
  have c2 := inR4 a2
  have c3 := inR4 a3
  have d1 := inR4 b1
  have d2 := inR4 b2
  have d3 := inR4 b3
  refine ⟨fun hq => ?_, fun ⟨h1, h2, h3, h4⟩ => ?_⟩
  · rw [hq, b4] at a4
    unfold prL at a4
    simp only [List.append_assoc] at a4
    have i1 := List.append_inj a4 rfl
    have i2 := List.append_inj i1.2 (by rw [be_len, be_len])
    have i3 := List.append_inj i2.2 (by rw [be_len, be_len])
    have i4 := List.append_inj i3.2 (by rw [be_len, be_len])
    have k2 := be_inj (by omega) (by omega) i2.1
    have k3 := be_inj (by omega) (by omega) i3.1
    have k4 := be_inj (by omega) (by omega) i4.1
    refine ⟨by omega, by omega, by omega, ?_⟩
    apply ByteArray.ext
    apply Array.ext'
    exact i4.2.symm
  · apply ByteArray.ext
    apply Array.ext'
    rw [a4, b4, h1, h2, h3, h4]
theorem first_of {t : ByteArray} {x : UInt8} {l : List UInt8} (h : t.data.toList = x :: l) : t.data.toList.head? = some x := by rw [h]; rfl
theorem pr_first {e v s : Int} {r : Rq} (h : prE e v s r = 0) : (prT e v s r).data.toList.head? = some 80 := by rw [(prE_ok h).2.2.2.2]; rfl
theorem st_first {s : Int} {x : ByteArray} (h : stE s = 0) : (stT s x).data.toList.head? = some 83 := by
  have hs : inR 4 s = true := by
    unfold stE at h
    split at h
    · next h1 => exact h1
    · cases h
  rw [stT, if_pos hs]
  rfl
theorem rq_first {r : Rq} (h : rqE r = 0) : (rqT r).data.toList.head? = some 0 ∨ (rqT r).data.toList.head? = some 1 := by
  rcases (rqE_iff r).1 h with h1 | h1
  · left; rw [(nul_text h1).1]; rfl
  · right; rw [rqT, right_null h1, h1]; rfl
end Go.Proofs.YtgmekkgbobmplaaGreat

/- What all families of texts share: lists of texts and of numbers. -/
namespace Go.Proofs.YtgmekkgbobmplaaGreat
open Go.RowKit

theorem Tryz.info9 : (Tryz.prog.info? 9).map (fun i => (i.zero, i.size, i.bytes)) = some (some (.string ⟨#[]⟩), 1, 16) := by kernel_rfl
/-- The texts ss lie at a. -/
def StrsIn (w : World) (a : Option Addr) (ss : List ByteArray) : Prop :=
  ss = [] ∨ ∃ g off, a = some ⟨g, off, none⟩ ∧ g < w.heap.size ∧ ∀ j s, ss[j]? = some s → w.cell? ⟨g, off + j, none⟩ = some (.string s)
theorem StrsIn.keep {w w' : World} {a : Option Addr} {ss : List ByteArray} {B : Nat} (h : StrsIn w a ss) (hb : Below B w w') (hB : w.heap.size ≤ B) : StrsIn w' a ss := by
  rcases h with h | ⟨g, off, ha, hg, hc⟩
  · exact .inl h
  · exact .inr ⟨g, off, ha, Nat.lt_of_lt_of_le hg hb.size, fun j s hs => (hb.cell (p := ⟨g, off + j, none⟩) (Nat.lt_of_lt_of_le hg hB)).trans (hc j s hs)⟩
def sC (ss : List ByteArray) : List Value := ss.map Value.string
theorem sC_len (ss : List ByteArray) : (sC ss).length = ss.length := by simp [sC]
theorem sC_app (a b : List ByteArray) : sC (a ++ b) = sC a ++ sC b := by simp [sC]
theorem sC_one (ss : List ByteArray) : ∀ v ∈ sC ss, v.oneCell' = true := by
  intro v hv
  obtain ⟨x, _, rfl⟩ := List.mem_map.1 hv
  rfl
theorem sC_get (ss : List ByteArray) (j : Nat) (s : ByteArray) (h : ss[j]? = some s) : (sC ss)[j]? = some (.string s) := by simp [sC, h]
theorem sC_back (ss : List ByteArray) (j : Nat) (v : Value) (h : (sC ss)[j]? = some v) : ∃ s, ss[j]? = some s ∧ v = .string s := by
  simp [sC] at h
  obtain ⟨s, hs, rfl⟩ := h
  exact ⟨s, hs, rfl⟩
/-- The slice v holds the texts ss, in a row of its own; nothing below B has turned since w0. -/
structure OwnedS (B : Nat) (w0 w : World) (v : Value) (ss : List ByteArray) : Prop where
  own : w.ownsRow B 9 1 v ss.length (sC ss)
  bel : Below B w0 w
  le : B ≤ w.heap.size
theorem OwnedS.nil {B : Nat} {w0 w : World} (h : Below B w0 w) (hB : B ≤ w.heap.size) : OwnedS B w0 w (.slice none 0 0) [] := ⟨⟨rfl, .inl ⟨rfl, rfl⟩⟩, h, hB⟩
theorem OwnedS.alloc {B : Nat} {w0 w : World} {v : Value} {l : List ByteArray} (h : OwnedS B w0 w v l) (o : Obj) : OwnedS B w0 (w.alloc o) v l :=
  ⟨h.own.alloc o, h.bel.alloc h.le o, by have := h.le; simp; omega⟩
theorem OwnedS.grow {B : Nat} {w0 w w2 : World} {v v2 : Value} {l xs : List ByteArray} {m : Nat} (h : OwnedS B w0 w v l) (hm : xs.length = m) (h2 : w2.ownsRow B 9 1 v2 (l.length + m) (sC l ++ sC xs)) (hg : w.grownBy w2 v.ownBlock) : OwnedS B w0 w2 v2 (l ++ xs) :=
  ⟨by rw [List.length_append, sC_app, hm]; exact h2, h.bel.grown hg h.le (fun k hk => (h.own.lt k hk).1), Nat.le_trans h.le hg.size⟩
theorem OwnedS.form {B : Nat} {w0 w : World} {v : Value} {l : List ByteArray} (h : OwnedS B w0 w v l) (hl : 0 < l.length) : ∃ g cap, v = .slice (some ⟨g, 0, none⟩) l.length cap ∧ l.length ≤ cap ∧ g < w.heap.size ∧ B ≤ g ∧ ∀ j s, l[j]? = some s → w.cell? ⟨g, j, none⟩ = some (.string s) := by
  rcases h.own.2 with ⟨_, h0⟩ | ⟨g, cap, cur, hv, hb, hh, hnc, hcp, hcs, htake⟩
  · omega
  · refine ⟨g, cap, hv, hnc, lt_of_blk hh, hb, fun j s hj => ?_⟩
    subst hv
    have := h.own.cells (g := g) rfl j _ (sC_get l j s hj)
    rwa [Addr.add_lit, Nat.zero_add] at this
section
variable {o : Oper} {a : Act} {w : World} {Q : Exit → Act → World → Prop} {ops : Array Oper} {rest : List Oper}
end
/-- The numbers zs lie at a. -/
def IntsIn (w : World) (a : Option Addr) (zs : List Int) : Prop :=
  zs = [] ∨ ∃ g off, a = some ⟨g, off, none⟩ ∧ g < w.heap.size ∧ ∀ j z, zs[j]? = some z → w.cell? ⟨g, off + j, none⟩ = some (.int .i64 z)
theorem IntsIn.keep {w w' : World} {a : Option Addr} {zs : List Int} {B : Nat} (h : IntsIn w a zs) (hb : Below B w w') (hB : w.heap.size ≤ B) : IntsIn w' a zs := by
  rcases h with h | ⟨g, off, ha, hg, hc⟩
  · exact .inl h
  · exact .inr ⟨g, off, ha, Nat.lt_of_lt_of_le hg hb.size, fun j s hs => (hb.cell (p := ⟨g, off + j, none⟩) (Nat.lt_of_lt_of_le hg hB)).trans (hc j s hs)⟩
theorem IntsIn.at {w : World} {a : Option Addr} {zs : List Int} (h : IntsIn w a zs) (j : Nat) (z : Int) (hj : zs[j]? = some z) : ∃ g off, a = some ⟨g, off, none⟩ ∧ g < w.heap.size ∧ w.cell? ⟨g, off + j, none⟩ = some (.int .i64 z) := by
  rcases h with h | ⟨g, off, ha, hg, hc⟩
  · rw [h] at hj; simp at hj
  · exact ⟨g, off, ha, hg, hc j z hj⟩
theorem StrsIn.at {w : World} {a : Option Addr} {ss : List ByteArray} (h : StrsIn w a ss) (j : Nat) (s : ByteArray) (hj : ss[j]? = some s) : ∃ g off, a = some ⟨g, off, none⟩ ∧ g < w.heap.size ∧ w.cell? ⟨g, off + j, none⟩ = some (.string s) := by
  rcases h with h | ⟨g, off, ha, hg, hc⟩
  · rw [h] at hj; simp at hj
  · exact ⟨g, off, ha, hg, hc j s hj⟩
theorem sC_set (l : List ByteArray) (j : Nat) (v : Value) (x : ByteArray) (hv : v = .string x) : (sC l).toArray.setIfInBounds j v = (sC (l.set j x)).toArray := by
  subst hv
  simp [sC, List.map_set]
theorem OwnedS.keep {B : Nat} {w0 w w' : World} {v : Value} {l : List ByteArray} (h : OwnedS B w0 w v l) (hb : Below w.heap.size w w') : OwnedS B w0 w' v l := by
  refine ⟨⟨h.own.1, ?_⟩, h.bel.trans (hb.mono h.le), Nat.le_trans h.le hb.size⟩
  rcases h.own.2 with hn | ⟨g, cap, cur, hv, hB, hh, hr⟩
  · exact .inl hn
  · exact .inr ⟨g, cap, cur, hv, hB, (hb.block g (lt_of_blk hh)).trans hh, hr⟩
theorem OwnedS.strs {B : Nat} {w0 w : World} {v : Value} {l : List ByteArray} (h : OwnedS B w0 w v l) : ∃ a cap, v = .slice a l.length cap ∧ StrsIn w a l := by
  by_cases h0 : 0 < l.length
  · obtain ⟨g, cap, hv, _, hg, _, hc⟩ := h.form h0
    exact ⟨_, cap, hv, .inr ⟨g, 0, rfl, hg, fun j s hj => by rw [Nat.zero_add]; exact hc j s hj⟩⟩
  · obtain rfl : l = [] := List.eq_nil_of_length_eq_zero (by omega)
    rcases h.own.2 with ⟨hv, _⟩ | ⟨g, cap, cur, hv, _⟩
    · exact ⟨none, 0, hv, .inl rfl⟩
    · exact ⟨_, cap, hv, .inl rfl⟩
theorem Tryz.info3 : (Tryz.prog.info? 3).map (fun i => (i.zero, i.size, i.bytes)) = some (some (.int .i64 0), 1, 8) := by kernel_rfl
def iC (zs : List Int) : List Value := zs.map (Value.int .i64)
theorem iC_len (zs : List Int) : (iC zs).length = zs.length := by simp [iC]
theorem iC_app (a b : List Int) : iC (a ++ b) = iC a ++ iC b := by simp [iC]
theorem iC_one (zs : List Int) : ∀ v ∈ iC zs, v.oneCell' = true := by
  intro v hv
  obtain ⟨x, _, rfl⟩ := List.mem_map.1 hv
  rfl
theorem iC_get (zs : List Int) (j : Nat) (s : Int) (h : zs[j]? = some s) : (iC zs)[j]? = some (.int .i64 s) := by simp [iC, h]
theorem iC_back (zs : List Int) (j : Nat) (v : Value) (h : (iC zs)[j]? = some v) : ∃ s, zs[j]? = some s ∧ v = .int .i64 s := by
  simp [iC] at h
  obtain ⟨s, hs, rfl⟩ := h
  exact ⟨s, hs, rfl⟩
/-- The slice v holds the numbers zs, in a row of its own; nothing below B has turned since w0. -/
structure OwnedI (B : Nat) (w0 w : World) (v : Value) (zs : List Int) : Prop where
  own : w.ownsRow B 3 1 v zs.length (iC zs)
  bel : Below B w0 w
  le : B ≤ w.heap.size
theorem OwnedI.nil {B : Nat} {w0 w : World} (h : Below B w0 w) (hB : B ≤ w.heap.size) : OwnedI B w0 w (.slice none 0 0) [] := ⟨⟨rfl, .inl ⟨rfl, rfl⟩⟩, h, hB⟩
theorem OwnedI.alloc {B : Nat} {w0 w : World} {v : Value} {l : List Int} (h : OwnedI B w0 w v l) (o : Obj) : OwnedI B w0 (w.alloc o) v l :=
  ⟨h.own.alloc o, h.bel.alloc h.le o, by have := h.le; simp; omega⟩
theorem OwnedI.grow {B : Nat} {w0 w w2 : World} {v v2 : Value} {l xs : List Int} {m : Nat} (h : OwnedI B w0 w v l) (hm : xs.length = m) (h2 : w2.ownsRow B 3 1 v2 (l.length + m) (iC l ++ iC xs)) (hg : w.grownBy w2 v.ownBlock) : OwnedI B w0 w2 v2 (l ++ xs) :=
  ⟨by rw [List.length_append, iC_app, hm]; exact h2, h.bel.grown hg h.le (fun k hk => (h.own.lt k hk).1), Nat.le_trans h.le hg.size⟩
theorem OwnedI.form {B : Nat} {w0 w : World} {v : Value} {l : List Int} (h : OwnedI B w0 w v l) (hl : 0 < l.length) : ∃ g cap, v = .slice (some ⟨g, 0, none⟩) l.length cap ∧ l.length ≤ cap ∧ cap ≤ maxLen ∧ g < w.heap.size ∧ B ≤ g ∧ ∀ j s, l[j]? = some s → w.cell? ⟨g, j, none⟩ = some (.int .i64 s) := by
  rcases h.own.2 with ⟨_, h0⟩ | ⟨g, cap, cur, hv, hb, hh, hnc, hcp, hcs, htake⟩
  · omega
  · refine ⟨g, cap, hv, hnc, hcp, lt_of_blk hh, hb, fun j s hj => ?_⟩
    subst hv
    have := h.own.cells (g := g) rfl j _ (iC_get l j s hj)
    rwa [Addr.add_lit, Nat.zero_add] at this
theorem OwnedI.same {B : Nat} {w0 w w1 : World} {v : Value} {l : List Int} (h : OwnedI B w0 w v l) (h1 : w1.os = w.os) (h2 : w1.tape = w.tape) (h3 : w1.output = w.output) (h4 : w1.heap = w.heap) : OwnedI B w0 w1 v l :=
  ⟨ownsRow_heap h4 h.own, ⟨h1.trans h.bel.os, h2.trans h.bel.tape, h3.trans h.bel.output, by rw [h4]; exact h.bel.size, fun k hk => by rw [h4]; exact h.bel.block k hk⟩, by rw [h4]; exact h.le⟩
section
variable {o : Oper} {a : Act} {w : World} {Q : Exit → Act → World → Prop} {ops : Array Oper} {rest : List Oper}
/-- A copy of one's own. -/
theorem wl_ownI (hgd : o.guard = none) (x y : Operand) (ho : o.op = .call { callee := .builtin .append, args := #[x, y], argTypes := #[22, 22] })
    (hx : a.eval x = .slice none 0 0) (ad : Option Addr) (n cap : Nat) (zs : List Int) (hy : a.eval y = .slice ad n cap) (hn : zs.length = n) (hS : IntsIn w ad zs) (hl : n ≤ 17592186043904)
    (h : ∀ v' w', Hid (OwnedI w.heap.size w w' v' zs) → wpList Tryz.prog ops Q rest (a.put o.dst v') w') : wpList Tryz.prog ops Q (o :: rest) a w := by
  obtain ⟨i0, hi0, hz0, hz1, hz2⟩ := info_parts Tryz.info3
  cases ad with
  | none =>
    obtain rfl : zs = [] := by rcases hS with h | ⟨g, off, ha, _⟩; exact h; cases ha
    obtain rfl : 0 = n := hn
    refine wpList_plain hgd fun K hK => owp_value (v := .slice none 0 0) (w' := w) ?_ (hK _ _ (h _ _ (OwnedI.nil (Below.refl _ _) (Nat.le_refl _))))
    simp [execOp, ho, resolve, invoke, builtin, hx, hy, Builtin.append_, run_underlying Tryz.underlying22, sizeOf, typeInfo, hi0, Builtin.lenOf, Builtin.firstCells, Result.andThen]
  | some ad =>
    refine wpList_append_own w hgd x y 22 ho w.heap.size 3 i0 (.int .i64 0) 1 8 Tryz.underlying22 hi0 hz0 hz1 hz2 rfl (by decide) (.slice none 0 0) 0 [] hx ⟨rfl, .inl ⟨rfl, rfl⟩⟩ ad n cap (iC zs) hy (by rw [iC_len, hn, Nat.mul_one]) (fun j v hv => ?_) (iC_one _) (by unfold maxLen; omega) (by omega) (Nat.le_refl _) (fun v' w' hown hgrow _ => h v' w' ?_)
    · obtain ⟨s, hs, rfl⟩ := iC_back zs j v hv
      rcases hS with h | ⟨g, off, ha, hg, hc⟩
      · rw [h] at hs; simp at hs
      · cases ha
        rw [Addr.add_lit]
        exact hc j s hs
    · have := (OwnedI.nil (Below.refl w.heap.size w) (Nat.le_refl _)).grow (xs := zs) hn hown hgrow
      exact this
end
end Go.Proofs.YtgmekkgbobmplaaGreat

/- Members, quorums, configurations, as functions. No walk here. -/
namespace Go.Proofs.YtgmekkgbobmplaaGreat
open Go.RowKit

def fltZ (n : Int) : Int := if n < 1 then 0 else (n - 1) / 3
def quoZ (n : Int) : Int := if n < 1 then 0 else (n + fltZ n) / 2 + 1
def wekZ (n : Int) : Int := if n < 1 then 0 else fltZ n + 1
theorem fltZ_lo {n : Int} (h : n < 1) : fltZ n = 0 := if_pos h
theorem quoZ_lo {n : Int} (h : n < 1) : quoZ n = 0 := if_pos h
theorem wekZ_lo {n : Int} (h : n < 1) : wekZ n = 0 := if_pos h
theorem fltZ_hi {n : Int} (h : ¬ n < 1) : fltZ n = (n - 1) / 3 := if_neg h
theorem quoZ_hi {n : Int} (h : ¬ n < 1) : quoZ n = (n + fltZ n) / 2 + 1 := if_neg h
theorem wekZ_hi {n : Int} (h : ¬ n < 1) : wekZ n = fltZ n + 1 := if_neg h
theorem fltZ_le {n : Int} (h : ¬ n < 1) : 0 ≤ fltZ n ∧ 3 * fltZ n ≤ n - 1 := by rw [fltZ_hi h]; omega
/-- The i-th of the members is one, and stands behind the one ahead of it. -/
def okAt (l : List Int) (i : Nat) : Bool := decide (0 ≤ l.getD i 0 ∧ l.getD i 0 < 16) && (decide (i = 0) || decide (l.getD (i - 1) 0 < l.getD i 0))
def okTo (l : List Int) : Nat → Bool
  | 0 => true
  | j + 1 => okTo l j && okAt l j
theorem okTo_succ (l : List Int) (j : Nat) : okTo l (j + 1) = (okTo l j && okAt l j) := rfl
theorem okTo_false (l : List Int) (j n : Nat) (h : okTo l j = false) (hn : j ≤ n) : okTo l n = false := by
  induction n with
  | zero =>
    obtain rfl : j = 0 := by omega
    exact h
  | succ n ih =>
    by_cases e : j = n + 1
    · rw [← e]; exact h
    · rw [okTo_succ, ih (by omega)]; rfl
theorem okAt_no1 (l : List Int) (i : Nat) (h : ¬ (0 ≤ l.getD i 0 ∧ l.getD i 0 < 16)) : okAt l i = false := by rw [okAt, decide_eq_false h]; rfl
theorem okAt_no2 (l : List Int) (i : Nat) (h0 : i ≠ 0) (h : ¬ (l.getD (i - 1) 0 < l.getD i 0)) : okAt l i = false := by rw [okAt, decide_eq_false h, decide_eq_false h0]; simp
theorem okAt_yes0 (l : List Int) (h : 0 ≤ l.getD 0 0 ∧ l.getD 0 0 < 16) : okAt l 0 = true := by rw [okAt, decide_eq_true h]; rfl
theorem okAt_yes (l : List Int) (i : Nat) (h : 0 ≤ l.getD i 0 ∧ l.getD i 0 < 16) (h1 : l.getD (i - 1) 0 < l.getD i 0) : okAt l i = true := by rw [okAt, decide_eq_true h, decide_eq_true h1]; simp
/-- Are the members right? -/
def memB (l : List Int) : Bool := okTo l l.length && decide (4 ≤ l.length ∧ l.length ≤ 10)
/-- Is the configuration right? -/
def rightC (ep : Int) (l : List Int) : Bool := decide (0 ≤ ep ∧ ep ≤ 60) && memB l
def hasM (l : List Int) (id : Int) : Bool := decide (id ∈ l)
theorem okTo_at (l : List Int) : ∀ n, okTo l n = true → ∀ i, i < n → okAt l i = true
  | 0, _, i, hi => by omega
  | n + 1, h, i, hi => by
    rw [okTo_succ, Bool.and_eq_true_iff] at h
    by_cases e : i = n
    · rw [e]; exact h.2
    · exact okTo_at l n h.1 i (by omega)
theorem mem_len {l : List Int} (h : memB l = true) : 4 ≤ l.length ∧ l.length ≤ 10 := of_decide_eq_true (Bool.and_eq_true_iff.1 h).2
theorem mem_at {l : List Int} (h : memB l = true) (i : Nat) (hi : i < l.length) : okAt l i = true := okTo_at l _ (Bool.and_eq_true_iff.1 h).1 i hi
theorem mem_range {l : List Int} (h : memB l = true) (i : Nat) (hi : i < l.length) : 0 ≤ l.getD i 0 ∧ l.getD i 0 < 16 := of_decide_eq_true (Bool.and_eq_true_iff.1 (mem_at h i hi)).1
theorem mem_rise {l : List Int} (h : memB l = true) (i : Nat) (hi : i + 1 < l.length) : l.getD i 0 < l.getD (i + 1) 0 := by
  have := (Bool.and_eq_true_iff.1 (mem_at h (i + 1) hi)).2
  simpa using this
/-- Who leads. -/
def leadN (l : List Int) (view : Int) : Nat := (view % (l.length : Int)).toNat
def leads (ep : Int) (l : List Int) (view : Int) : Bool := rightC ep l && decide (0 ≤ view)
def leadZ (ep : Int) (l : List Int) (view : Int) : Int := if leads ep l view then l.getD (leadN l view) 0 else 0
end Go.Proofs.YtgmekkgbobmplaaGreat

/- The document's counts, members and leaders. -/
namespace Go.Proofs.YtgmekkgbobmplaaGreat
open Go.RowKit

end Go.Proofs.YtgmekkgbobmplaaGreat

/- The document's members. -/
namespace Go.Proofs.YtgmekkgbobmplaaGreat
open Go.RowKit

set_option maxRecDepth 100000 in
set_option maxHeartbeats 3200000 in
theorem vmembers_any (a : Option Addr) (n cap : Nat) (l : List Int) (hn : l.length = n) (hm : n ≤ maxLen) (w : World) (hI : IntsIn w a l) :
    Calls Tryz.prog 50 #[.slice a n cap] w fun e w' => e = .returned (.bool (memB l)) ∧ Below w.heap.size w w' := by
  have hm2 : (n : Int) ≤ 9223372036854775807 := by unfold maxLen at hm; omega
  have HI := hid hI
  have HN := hid hn
  clear hI hm hn
  go_enter Tryz.func50, Tryz.ntmps50
  go_wp2
  go_loopw [3] (fun i wr => ∃ j : Nat, j ≤ n ∧ i = .int .i64 (j : Int) ∧ okTo l j = true ∧ Below w.heap.size w wr)
    (fun i _ => ((n : Int) - intOf i).toNat)
  case atStart => exact ⟨0, by omega, rfl, rfl, Below.refl _ _⟩
  case round =>
    obtain ⟨j, hj, rfl, hok, hbel⟩ := hrel
    have HB := hid hbel
    clear hbel
    by_cases hjn : j = n
    · have hj1 : ¬ ((j : Int) < (n : Int)) := by omega
      rw [hjn] at hok
      by_cases h4 : 4 ≤ n
      · by_cases h10 : n ≤ 10
        · have k4 : (4 : Int) ≤ (n : Int) := by omega
          have k10 : (n : Int) ≤ 10 := by omega
          have HF : Hid (memB l = true) := hid (by rw [memB, HN.out, hok, decide_eq_true (And.intro h4 h10)]; rfl)
          clear hok hj hjn h4 h10
          go_wp2
          go_ret
          exact ⟨by rw [HF.out]; rfl, HB.out⟩
        · have k4 : (4 : Int) ≤ (n : Int) := by omega
          have k10 : ¬ ((n : Int) ≤ 10) := by omega
          have HF : Hid (memB l = false) := hid (by rw [memB, HN.out, decide_eq_false (fun h => h10 h.2)]; simp)
          clear hok hj hjn h4 h10
          go_wp2
          go_ret
          exact ⟨by rw [HF.out]; rfl, HB.out⟩
      · have k4 : ¬ ((4 : Int) ≤ (n : Int)) := by omega
        have HF : Hid (memB l = false) := hid (by rw [memB, HN.out, decide_eq_false (fun h => h4 h.1)]; simp)
        clear hok hj hjn h4
        go_wp2
        go_ret
        exact ⟨by rw [HF.out]; rfl, HB.out⟩
    · have hj1 : (j : Int) < (n : Int) := by omega
      have hj0 : (0 : Int) ≤ (j : Int) := Int.natCast_nonneg _
      have hget : l[j]? = some (l.getD j 0) := by rw [List.getD_eq_getElem?_getD, List.getElem?_eq_getElem (by rw [HN.out]; omega)]; rfl
      obtain ⟨g, off, rfl, hg, hcell⟩ := HI.out.at j _ hget
      obtain ⟨x, ex⟩ : ∃ x, x = l.getD j 0 := ⟨_, rfl⟩
      rw [← ex] at hcell
      have cz : ∀ q : Cls wr, q.1.cell? ⟨g, off + j, none⟩ = some (.int .i64 x) := fun q => (q.2.cell (p := ⟨g, off + j, none⟩) (Nat.lt_of_lt_of_le hg HB.out.size)).trans ((HB.out.cell (p := ⟨g, off + j, none⟩) hg).trans hcell)
      clear hcell hget
      by_cases hx0 : x < 0
      · have d1 : decide (x < 0) = true := decide_eq_true hx0
        have HF : Hid (okTo l n = false) := hid (okTo_false l (j + 1) n (by rw [okTo_succ, okAt_no1 l j (by rw [← ex]; omega)]; simp) (by omega))
        clear hok hj hjn ex
        go_wp2
        haveI := Cls.ne wr
        refine wp_region_cls wr (by kernel_rfl) (by kernel_rfl) ?_
        repeat (go_big_quiet_step ((fail)))
        refine wpQuiet_nil ?_
        rintro _ ⟨q, rfl⟩
        go_wp2
        go_ret
        exact ⟨by rw [memB, HN.out, HF.out]; rfl, HB.out.trans (q.2.mono HB.out.size)⟩
      by_cases hx16 : 16 ≤ x
      · have d1 : decide (x < 0) = false := decide_eq_false hx0
        have d2 : decide ((16 : Int) ≤ x) = true := decide_eq_true hx16
        have HF : Hid (okTo l n = false) := hid (okTo_false l (j + 1) n (by rw [okTo_succ, okAt_no1 l j (by rw [← ex]; omega)]; simp) (by omega))
        clear hok hj hjn ex
        go_wp2
        haveI := Cls.ne wr
        refine wp_region_cls wr (by kernel_rfl) (by kernel_rfl) ?_
        repeat (go_big_quiet_step ((fail)))
        refine wpQuiet_nil ?_
        rintro _ ⟨q, rfl⟩
        go_wp2
        go_ret
        exact ⟨by rw [memB, HN.out, HF.out]; rfl, HB.out.trans (q.2.mono HB.out.size)⟩
      have d1 : decide (x < 0) = false := decide_eq_false hx0
      have d2 : decide ((16 : Int) ≤ x) = false := decide_eq_false hx16
      by_cases hz : j = 0
      · have d4 : decide (0 < j) = false := decide_eq_false (by omega)
        have HF : Hid (okTo l (j + 1) = true) := hid (by rw [okTo_succ, hok, show okAt l j = true by (have hx : l.getD 0 0 = x := by rw [ex, hz]); rw [hz]; exact okAt_yes0 l (by rw [hx]; omega)]; rfl)
        have HJ := hid (And.intro hj hjn)
        clear hok hj hjn ex hz
        go_wp2
        haveI := Cls.ne wr
        refine wp_region_cls wr (by kernel_rfl) (by kernel_rfl) ?_
        repeat (go_big_quiet_step ((fail)))
        refine wpQuiet_nil ?_
        rintro _ ⟨q, rfl⟩
        go_wp2
        go_roundw
        case rel => exact ⟨j + 1, by have := HJ.out; omega, by go_num, HF.out, HB.out.trans (q.2.mono HB.out.size)⟩
        case measure => simp [intOf]; omega
      · obtain ⟨i, rfl⟩ : ∃ i, j = i + 1 := ⟨j - 1, by omega⟩
        have hgetp : l[i]? = some (l.getD i 0) := by rw [List.getD_eq_getElem?_getD, List.getElem?_eq_getElem (by rw [HN.out]; omega)]; rfl
        obtain ⟨g', off', eg, hg', hcellp⟩ := HI.out.at i _ hgetp
        obtain ⟨rfl, rfl⟩ : g = g' ∧ off = off' := by simp at eg; exact eg
        obtain ⟨y, ey⟩ : ∃ y, y = l.getD i 0 := ⟨_, rfl⟩
        rw [← ey] at hcellp
        have cy : ∀ q : Cls wr, q.1.cell? ⟨g, off + i, none⟩ = some (.int .i64 y) := fun q => (q.2.cell (p := ⟨g, off + i, none⟩) (Nat.lt_of_lt_of_le hg' HB.out.size)).trans ((HB.out.cell (p := ⟨g, off + i, none⟩) hg').trans hcellp)
        have hi0 : (0 : Int) < ((i + 1 : Nat) : Int) := by omega
        have hi1 : (i : Int) < (n : Int) := by omega
        have hi2 : (0 : Int) ≤ (i : Int) := by omega
        have d4 : decide ((0 : Int) < (i : Int) + 1) = true := decide_eq_true (by omega)
        clear hcellp hgetp eg hz
        by_cases hxy : x ≤ y
        · have d3 : decide (x ≤ y) = true := decide_eq_true hxy
          have HF : Hid (okTo l n = false) := hid (okTo_false l (i + 1 + 1) n (by rw [okTo_succ, okAt_no2 l (i + 1) (by omega) (by rw [← ex, show i + 1 - 1 = i from rfl, ← ey]; omega)]; simp) (by omega))
          clear hok hj hjn ex ey
          go_wp2
          haveI := Cls.ne wr
          refine wp_region_cls wr (by kernel_rfl) (by kernel_rfl) ?_
          repeat (go_big_quiet_step ((fail)))
          refine wpQuiet_nil ?_
          rintro _ ⟨q, rfl⟩
          go_wp2
          go_ret
          exact ⟨by rw [memB, HN.out, HF.out]; rfl, HB.out.trans (q.2.mono HB.out.size)⟩
        · have d3 : decide (x ≤ y) = false := decide_eq_false hxy
          have HF : Hid (okTo l (i + 1 + 1) = true) := hid (by rw [okTo_succ, hok, okAt_yes l (i + 1) (by rw [← ex]; omega) (by rw [← ex, show i + 1 - 1 = i from rfl, ← ey]; omega)]; rfl)
          have HJ := hid (And.intro hj hjn)
          clear hok hj hjn ex ey
          go_wp2
          haveI := Cls.ne wr
          refine wp_region_cls wr (by kernel_rfl) (by kernel_rfl) ?_
          repeat (go_big_quiet_step ((fail)))
          refine wpQuiet_nil ?_
          rintro _ ⟨q, rfl⟩
          go_wp2
          go_roundw
          case rel => exact ⟨i + 1 + 1, by have := HJ.out; omega, by go_num, HF.out, HB.out.trans (q.2.mono HB.out.size)⟩
          case measure => simp [intOf]; omega
end Go.Proofs.YtgmekkgbobmplaaGreat

/- The document's: who is a member, which configuration is right, who leads. -/
namespace Go.Proofs.YtgmekkgbobmplaaGreat
open Go.RowKit

theorem not_mem_snoc {l : List Int} {id : Int} {j : Nat} (h : id ∉ l.take j) (hx : l.getD j 0 ≠ id) (hj : j < l.length) : id ∉ l.take (j + 1) := by
  rw [List.take_add_one, List.getElem?_eq_getElem hj]
  rw [List.getD_eq_getElem?_getD, List.getElem?_eq_getElem hj] at hx
  intro hm
  rcases List.mem_append.1 hm with h1 | h1
  · exact h h1
  · simp at h1 hx
    exact hx h1.symm
theorem mem_of_get {l : List Int} {id : Int} {j : Nat} (hx : l.getD j 0 = id) (hj : j < l.length) : id ∈ l := by
  rw [List.getD_eq_getElem?_getD, List.getElem?_eq_getElem hj] at hx
  rw [← hx]
  exact List.getElem_mem hj
theorem getD_some {l : List Int} {j : Nat} (hj : j < l.length) : l[j]? = some (l.getD j 0) := by rw [List.getD_eq_getElem?_getD, List.getElem?_eq_getElem hj]; rfl
set_option maxRecDepth 100000 in
set_option maxHeartbeats 1600000 in
theorem vhas_any (a : Option Addr) (n cap : Nat) (l : List Int) (hn : l.length = n) (hm : n ≤ maxLen) (id : Int) (w : World) (hI : IntsIn w a l) :
    Calls Tryz.prog 27 #[.slice a n cap, .int .i64 id] w fun e w' => e = .returned (.bool (hasM l id)) ∧ w' = w := by
  have hm2 : (n : Int) ≤ 9223372036854775807 := by unfold maxLen at hm; omega
  have HI := hid hI
  have HN := hid hn
  clear hI hm hn
  go_enter Tryz.func27, Tryz.ntmps27
  go_wp2
  go_loopw [5] (fun i wr => ∃ j : Nat, j ≤ n ∧ i = .int .i64 (j : Int) ∧ id ∉ l.take j ∧ wr = w)
    (fun i _ => ((n : Int) - intOf i).toNat)
  case atStart => exact ⟨0, by omega, rfl, by simp, rfl⟩
  case round =>
    obtain ⟨j, hj, rfl, hno, rfl⟩ := hrel
    by_cases hjn : j = n
    · have hj1 : ¬ ((j : Int) < (n : Int)) := by omega
      have HF : Hid (hasM l id = false) := hid (decide_eq_false (by rwa [List.take_of_length_le (by rw [HN.out]; omega)] at hno))
      clear hno hj hjn
      go_wp2
      go_ret
      exact ⟨by rw [HF.out]; rfl, rfl⟩
    · have hj1 : (j : Int) < (n : Int) := by omega
      have hj0 : (0 : Int) ≤ (j : Int) := Int.natCast_nonneg _
      have hjl : j < l.length := by rw [HN.out]; omega
      obtain ⟨g, off, rfl, hg, cz⟩ := HI.out.at j _ (getD_some hjl)
      by_cases hx : l.getD j 0 = id
      · have HF : Hid (hasM l id = true) := hid (decide_eq_true (mem_of_get hx hjl))
        rw [hx] at cz
        clear hno hj hjn hx hjl hg
        go_wp2
        go_ret
        exact ⟨by rw [HF.out]; rfl, rfl⟩
      · have HF : Hid (id ∉ l.take (j + 1)) := hid (not_mem_snoc hno hx hjl)
        obtain ⟨x, ex⟩ : ∃ x, x = l.getD j 0 := ⟨_, rfl⟩
        rw [← ex] at cz hx
        have HJ := hid (And.intro hj hjn)
        clear hno hj hjn hjl hg ex
        go_wp2
        go_roundw
        case rel => exact ⟨j + 1, by have := HJ.out; omega, by go_num, HF.out, by first | exact rfl | exact trivial⟩
        case measure => simp [intOf]; omega
theorem IntsIn.alloc {w : World} {a : Option Addr} {l : List Int} (h : IntsIn w a l) (o : Obj) : IntsIn (w.alloc o) a l := h.keep ((Below.refl w.heap.size w).alloc (Nat.le_refl _) o) (Nat.le_refl _)
set_option maxRecDepth 100000 in
set_option maxHeartbeats 1600000 in
theorem vright_any (ep : Int) (a : Option Addr) (n cap : Nat) (l : List Int) (hn : l.length = n) (hm : n ≤ maxLen) (w : World) (hI : IntsIn w a l) :
    Calls Tryz.prog 90 #[.agg #[.int .i64 ep, .slice a n cap]] w fun e w' => e = .returned (.bool (rightC ep l)) ∧ Below w.heap.size w w' := by
  by_cases h0 : 0 ≤ ep
  · by_cases h60 : ep ≤ 60
    · have HM : Hid (∀ u : World, IntsIn u a l → Calls Tryz.prog 50 #[.slice a n cap] u fun e w' => e = .returned (.bool (memB l)) ∧ Below u.heap.size u w') := hid (fun u hu => vmembers_any a n cap l hn hm u hu)
      have HR : Hid (rightC ep l = memB l) := hid (by rw [rightC, decide_eq_true (And.intro h0 h60)]; rfl)
      have HI := hid hI
      rw [HR.out]
      generalize memB l = b at HM
      clear hI hn hm
      go_enter Tryz.func90, Tryz.ntmps90
      go_wp2_with (go_at_call 50; refine (HM.out _ (by exact HI.out.alloc _)).mono ?_; rintro e w1 ⟨rfl, hb1⟩; have H1 := hid (((Below.refl w.heap.size w).alloc (Nat.le_refl _) _).trans (hb1.mono (by simp))); clear hb1)
      go_ret
      exact ⟨rfl, H1.out⟩
    · have HR : Hid (rightC ep l = false) := hid (by rw [rightC, decide_eq_false (fun h => h60 h.2)]; rfl)
      rw [HR.out]
      clear hI hn hm
      go_enter Tryz.func90, Tryz.ntmps90
      go_wp2
      go_ret
      exact ⟨rfl, (Below.refl _ _).alloc (Nat.le_refl _) _⟩
  · have HR : Hid (rightC ep l = false) := hid (by rw [rightC, decide_eq_false (fun h => h0 h.1)]; rfl)
    rw [HR.out]
    clear hI hn hm
    go_enter Tryz.func90, Tryz.ntmps90
    go_wp2
    go_ret
    exact ⟨rfl, (Below.refl _ _).alloc (Nat.le_refl _) _⟩
end Go.Proofs.YtgmekkgbobmplaaGreat

/- The document's leaders. -/
namespace Go.Proofs.YtgmekkgbobmplaaGreat
open Go.RowKit

theorem right_mem {ep : Int} {l : List Int} (h : rightC ep l = true) : (0 ≤ ep ∧ ep ≤ 60) ∧ memB l = true := by
  obtain ⟨h1, h2⟩ := Bool.and_eq_true_iff.1 h
  exact ⟨of_decide_eq_true h1, h2⟩
theorem leadN_lt (l : List Int) (view : Int) (hl : 0 < l.length) : leadN l view < l.length ∧ view % (l.length : Int) = (leadN l view : Int) := by
  unfold leadN
  have h1 := Int.emod_nonneg view (show (l.length : Int) ≠ 0 by omega)
  have h2 := Int.emod_lt_of_pos view (show (0 : Int) < (l.length : Int) by omega)
  omega
/-- A struct of two cells, as laid. -/
theorem conf_cells (w : World) (ep s : Value) : (w.alloc (.cells #[ep, s] 94)).heap[w.heap.size]? = some (.cells [ep, s].toArray 94 (0, 0)) := heap_alloc_last w _
end Go.Proofs.YtgmekkgbobmplaaGreat

/- The document's writer (layer 1's reference): a number as bytes. -/
namespace Go.Proofs.YtgmekkgbobmplaaGreat
open Go.RowKit

theorem made_zero (n : Nat) : madeCells #[Value.int .u8 0] n = (List.replicate n (Value.int .u8 0)).toArray := by
  apply Array.ext'
  simp [madeCells]
  apply List.ext_getElem?
  intro i
  by_cases h : i < n
  · simp [h, Nat.mod_one]
  · simp [h]

/-- The cells of a number that is being written from its end. -/
def bigCells (k : Nat) (T : List UInt8) : Array Value := (List.replicate k (Value.int .u8 0) ++ bC T).toArray
theorem bigCells_set (j : Nat) (T : List UInt8) (c : UInt8) : (bigCells (j + 1) T).setIfInBounds j (.int .u8 (c.toNat : Int)) = bigCells j (c :: T) := by
  apply Array.ext'
  simp only [bigCells, Array.toList_setIfInBounds]
  rw [List.replicate_succ', List.append_assoc, List.set_append_right _ _ (by simp)]
  simp [bC]

set_option maxRecDepth 100000 in
set_option maxHeartbeats 1600000 in
theorem big_any (n s : Nat) (w : World) (hs : s ≤ 8) (hn : n < 18446744073709551616) :
    Calls Tryz.prog 125 #[.int .u64 n, .int .i64 s] w fun e w' => e = .returned (.slice (some ⟨w.heap.size, 0, none⟩) s s) ∧ w'.heap[w.heap.size]? = some (.cells (bC (be s n)).toArray 5 (0, 0)) ∧ Below w.heap.size w w' := by
  obtain ⟨i0, hi0, hz0, hz1, hz2⟩ := info_parts Tryz.info5
  have hmk : ∀ u : World, (Instr.makeSlice 160 (.int .i64 (s : Int)) (.int .i64 (s : Int))).run Tryz.prog u = .ok (.slice (some ⟨u.heap.size, 0, none⟩) s s) (u.alloc (.cells (bigCells s []) 5)) := fun u => by
    have h := run_make (P := Tryz.prog) u 160 5 i0 (.int .u8 0) Tryz.underlying160 hi0 hz0 .i64 .i64 (s : Int) (s : Int) (by omega) (Int.le_refl _) (by rw [hz2]; omega) (by omega)
    rw [hz1] at h
    simp only [Int.toNat_natCast, Nat.mul_one] at h
    rw [h]
    simp [Value.cells, made_zero, bigCells, bC]
  clear hi0 hz0 hz1 hz2
  have HN := hid hn
  clear hn
  go_enter Tryz.func125, Tryz.ntmps125
  go_wp2
  go_loopw [0, 6] (fun v i wr => ∃ (k m : Nat) (T : List UInt8), k ≤ s ∧ i = .int .i64 ((k : Int) - 1) ∧ v = .int .u64 (m : Int) ∧ m < 18446744073709551616 ∧ be k m ++ T = be s n ∧ wr.heap[w.heap.size]? = some (.cells (bigCells k T) 5 (0, 0)) ∧ Below w.heap.size w wr)
    (fun _ i _ => (intOf i + 1).toNat)
  case atStart => exact ⟨s, n, [], Nat.le_refl _, rfl, rfl, HN.out, by simp, heap_alloc_new w _, (Below.refl _ _).alloc (Nat.le_refl _) _⟩
  case round =>
    obtain ⟨k, m, T, hk, rfl, rfl, hm, hT, hblk, hbel⟩ := hrel
    have HT := hid hT
    have HR := hid (And.intro hblk hbel)
    clear hT hblk hbel
    cases k with
    | zero =>
      go_wp2
      go_ret
      refine ⟨rfl, ?_, HR.out.2⟩
      have e : T = be s n := by simpa [be] using HT.out
      rw [← e]
      simpa [bigCells] using HR.out.1
    | succ j =>
      have ej : (((j + 1 : Nat) : Int) - 1) = (j : Int) := by omega
      rw [ej]
      clear ej
      have hj0 : (0 : Int) ≤ (j : Int) := Int.natCast_nonneg _
      have hjs : (j : Int) < (s : Int) := by omega
      have hm0 : (0 : Int) ≤ (m : Int) := Int.natCast_nonneg _
      have cG : wr.cell? ⟨w.heap.size, j, none⟩ = some (.int .u8 0) := by
        have := cell_of_blk HR.out.1 j (by simp [bigCells]; omega)
        rw [this]
        simp [bigCells]
      have fG := free_of_blk HR.out.1 j
      go_wp2
      go_roundw
      case rel =>
        have hmod : (m : Int) % 256 = ((UInt8.ofNat m).toNat : Int) := by
          have e : (UInt8.ofNat m).toNat = m % 256 := by simp
          rw [e]; omega
        refine ⟨j, m / 256, UInt8.ofNat m :: T, by omega, rfl, ?_, by omega, ?_, ?_, ?_⟩
        · have e : (m : Int) / 256 = ((m / 256 : Nat) : Int) := by omega
          rw [e]
        · have := HT.out
          rw [be_snoc, List.append_assoc] at this
          exact this
        · have := HR.out.1
          simp [World.setCell, Array.getElem?_modify, this]
          rw [hmod, bigCells_set]
        · exact HR.out.2.setCell (Nat.le_refl _) _
      case measure => simp [intOf]

end Go.Proofs.YtgmekkgbobmplaaGreat

/- The contracts of the document's writer (layer 1's reference). -/
namespace Go.Proofs.YtgmekkgbobmplaaGreat
open Go.RowKit

/-- The document's writer at block c. -/
structure MwAt (w : World) (c : Nat) (v : Value) (lim : Int) (l : List UInt8) (er : Int) : Prop where
  blk : w.heap[c]? = some (.cells #[v, .int .i64 lim, .int .i64 er] 172 (0, 0))
  own : w.ownsRow (c + 1) 5 1 v l.length (bC l)

section
variable {w : World} {c : Nat} {v : Value} {lim : Int} {l : List UInt8} {er : Int}
theorem MwAt.lt (h : MwAt w c v lim l er) : c < w.heap.size := lt_of_blk h.blk
theorem MwAt.c0 (h : MwAt w c v lim l er) : w.cell? ⟨c, 0, none⟩ = some v := cell_of_blk h.blk 0 (by simp)
theorem MwAt.c1 (h : MwAt w c v lim l er) : w.cell? ⟨c, 1, none⟩ = some (.int .i64 lim) := cell_of_blk h.blk 1 (by simp)
theorem MwAt.c2 (h : MwAt w c v lim l er) : w.cell? ⟨c, 2, none⟩ = some (.int .i64 er) := cell_of_blk h.blk 2 (by simp)
theorem MwAt.fr (h : MwAt w c v lim l er) (j : Nat) : w.frozen? ⟨c, j, none⟩ = false := free_of_blk h.blk j
theorem MwAt.alloc (h : MwAt w c v lim l er) (o : Obj) : MwAt (w.alloc o) c v lim l er := ⟨(Below.heap_alloc w o c h.lt).trans h.blk, h.own.alloc o⟩
theorem MwAt.drew (h : MwAt w c v lim l er) : MwAt w.drew c v lim l er := ⟨h.blk, ownsRow_of_heap rfl h.own⟩
theorem MwAt.err (h : MwAt w c v lim l er) (u : Int) : MwAt (w.setCell ⟨c, 2, none⟩ (.int .i64 u)) c v lim l u :=
  ⟨by have := h.blk; simp [World.setCell, Array.getElem?_modify, this], ownsRow_setCell_below h.own (by show c < c + 1; omega) _⟩
theorem MwAt.form (h : MwAt w c v lim l er) : ∃ a cap, v = .slice a l.length cap := by
  rcases h.own.2 with ⟨hv, h0⟩ | ⟨g, cap, cur, hv, _⟩
  · exact ⟨none, 0, by rw [hv, h0]⟩
  · exact ⟨_, _, hv⟩
/-- Below the writer and its row nothing else has turned. -/
theorem MwAt.above {w' : World} (h : MwAt w c v lim l er) (hb : Below w.heap.size w w') : MwAt w' c v lim l er := by
  refine ⟨by rw [hb.block c h.lt]; exact h.blk, h.own.1, ?_⟩
  rcases h.own.2 with h2 | ⟨g, cap, cur, hv, hg, hh, r⟩
  · exact .inl h2
  · exact .inr ⟨g, cap, cur, hv, hg, by rw [hb.block g (lt_of_blk hh)]; exact hh, r⟩
end

theorem mnew_any (n : Int) (w : World) :
    Calls Tryz.prog 72 #[.int .i64 n] w fun e w' => e = .returned (.pointer (some ⟨w.heap.size, 0, none⟩)) ∧ w' = w.alloc (.cells #[.slice none 0 0, .int .i64 (max n 0), .int .i64 0] 172) := by
  by_cases hn : n < 0
  · have e : max n 0 = 0 := by omega
    rw [e]
    clear e
    go_enter Tryz.func72, Tryz.ntmps72
    go_wp2
    go_ret
    exact ⟨rfl, rfl⟩
  · have e : max n 0 = n := by omega
    rw [e]
    clear e
    go_enter Tryz.func72, Tryz.ntmps72
    go_wp2
    go_ret
    exact ⟨rfl, rfl⟩

theorem mdone_ok (c : Nat) (v : Value) (lim : Int) (l : List UInt8) (w : World) (h : MwAt w c v lim l 0) :
    Calls Tryz.prog 78 #[.pointer (some ⟨c, 0, none⟩)] w fun e w' => e = .returned (.tuple #[.string ⟨l.toArray⟩, .int .i64 0]) ∧ w' = w := by
  have c0 := h.c0
  have c2 := h.c2
  rcases h.own.2 with ⟨rfl, h0⟩ | ⟨g, cap, cur, rfl, hg, hh, hnc, hcp, hcs, htake⟩
  · obtain rfl := List.eq_nil_of_length_eq_zero h0
    have hcv : ∀ w, (convert 160 9 (.slice none 0 0)).run Tryz.prog w = .ok (.string ⟨#[]⟩) w := fun w => by
      rw [run_convert_bytes_string w 160 9 5 none 0 0 Tryz.underlying160 Tryz.underlying5 Tryz.underlying9]; rfl
    clear h
    go_enter Tryz.func78, Tryz.ntmps78
    go_wp2
    go_ret2
    exact ⟨rfl, rfl⟩
  · have hcv := run_convert_bytes_back (P := Tryz.prog) w 160 9 5 ⟨g, 0, none⟩ cap l Tryz.underlying160 Tryz.underlying5 Tryz.underlying9 (fun j hj => h.own.cells (g := g) rfl j _ (by simp [bC, hj]))
    clear h
    go_enter Tryz.func78, Tryz.ntmps78
    go_wp2
    go_ret2
    exact ⟨rfl, rfl⟩

theorem mdone_err (c : Nat) (v : Value) (lim : Int) (l : List UInt8) (er : Int) (w : World) (h : MwAt w c v lim l er) (he : (er != 0) = true) :
    Calls Tryz.prog 78 #[.pointer (some ⟨c, 0, none⟩)] w fun e w' => e = .returned (.tuple #[.string ⟨#[]⟩, .int .i64 er]) ∧ w' = w.drew := by
  have c2 := h.c2
  clear h
  go_enter Tryz.func78, Tryz.ntmps78
  go_wp2
  go_region
  all_goals (try go_wp2)
  all_goals go_ret2
  exact ⟨rfl, rfl⟩

set_option maxHeartbeats 800000 in
theorem mput_bad (c : Nat) (v : Value) (lim : Int) (l : List UInt8) (er : Int) (size : Int) (w : World) (h : MwAt w c v lim l er) :
    Calls Tryz.prog 124 #[.pointer (some ⟨c, 0, none⟩), .slice none 0 0, .bool false] w fun e w' => e = .returned (.tuple #[]) ∧ MwAt w' c v lim l (adm lim l.length er false size) ∧ Kept c none w w' := by
  have c2 := h.c2
  have f2 := h.fr 2
  have HH := hid h
  clear h
  by_cases he : er = 0
  · subst he
    rw [adm_bad]
    go_enter Tryz.func124, Tryz.ntmps124
    go_wp2
    first | go_end0 | refine bodyPost_ret (results_none rfl _ _ _) rfl ?_
    exact ⟨rfl, HH.out.err 4, (Kept.refl _ _ _).setCell _ _⟩
  · have hne : (er != 0) = true := by simpa using he
    rw [adm_er _ _ _ _ _ he]
    clear he
    go_enter Tryz.func124, Tryz.ntmps124
    go_wp2
    first | go_end0 | refine bodyPost_ret (results_none rfl _ _ _) rfl ?_
    exact ⟨rfl, HH.out, Kept.refl _ _ _⟩

set_option maxHeartbeats 800000 in
theorem mput_er (c : Nat) (v : Value) (lim : Int) (l : List UInt8) (er : Int) (x : Value) (w : World) (h : MwAt w c v lim l er) (he : (er != 0) = true) :
    Calls Tryz.prog 124 #[.pointer (some ⟨c, 0, none⟩), x, .bool true] w fun e w' => e = .returned (.tuple #[]) ∧ w' = w := by
  have c2 := h.c2
  clear h
  go_enter Tryz.func124, Tryz.ntmps124
  go_wp2
  first | go_end0 | refine bodyPost_ret (results_none rfl _ _ _) rfl ?_
  exact ⟨rfl, rfl⟩

set_option maxHeartbeats 800000 in
theorem mput_long (c : Nat) (a : Option Addr) (n cap : Nat) (lim : Int) (g m cm : Nat) (w : World) (c0 : w.cell? ⟨c, 0, none⟩ = some (.slice a n cap)) (c1 : w.cell? ⟨c, 1, none⟩ = some (.int .i64 lim)) (c2 : w.cell? ⟨c, 2, none⟩ = some (.int .i64 0)) (f2 : w.frozen? ⟨c, 2, none⟩ = false)
    (h0 : 0 ≤ lim) (h1 : lim ≤ 9223372036854775807) (hl : n ≤ 140737488355328) (hs : lim - n < m) :
    Calls Tryz.prog 124 #[.pointer (some ⟨c, 0, none⟩), .slice (some ⟨g, 0, none⟩) m cm, .bool true] w fun e w' => e = .returned (.tuple #[]) ∧ w' = (w.setCell ⟨c, 2, none⟩ (.int .i64 3)).drew := by
  go_enter Tryz.func124, Tryz.ntmps124
  go_wp2
  go_region
  all_goals (try go_wp2)
  all_goals (first | go_end0 | refine bodyPost_ret (results_none rfl _ _ _) rfl ?_)
  exact ⟨rfl, rfl⟩

theorem MwAt.bytes {w : World} {c : Nat} {v : Value} {lim : Int} {er : Int} (h : w.heap[c]? = some (.cells #[v, .int .i64 lim, .int .i64 er] 172 (0, 0))) {v' : Value} {l' : List UInt8} (ho : w.ownsRow (c + 1) 5 1 v' l'.length (bC l')) :
    MwAt (w.setCell ⟨c, 0, none⟩ v') c v' lim l' er :=
  ⟨by simp [World.setCell, Array.getElem?_modify, h], ownsRow_setCell_below ho (by show c < c + 1; omega) _⟩

theorem mput_step {w1 w2 : World} {c : Nat} {v v' : Value} {lim : Int} {L C : List UInt8} {er : Int} (hR : MwAt w1 c v lim L er)
    (hown : w2.ownsRow (c + 1) 5 1 v' (L.length + C.length) (bC L ++ bC C)) (hgrow : w1.grownBy w2 v.ownBlock) (hat : v'.ownBlock = v.ownBlock ∨ v'.ownBlock = some w1.heap.size) :
    MwAt (w2.setCell ⟨c, 0, none⟩ v') c v' lim (L ++ C) er ∧ Kept c v.ownBlock w1 (w2.setCell ⟨c, 0, none⟩ v') ∧ Moved w1 v v' := by
  have hbv : some c ≠ v.ownBlock := fun e => by have := (hR.own.lt c e.symm).1; omega
  have hb1 : w2.heap[c]? = some (.cells #[v, .int .i64 lim, .int .i64 er] 172 (0, 0)) := by
    rw [hgrow.block c hR.lt hbv]
    exact hR.blk
  refine ⟨MwAt.bytes hb1 ?_, ?_, ?_⟩
  · rw [bC_app, List.length_append]; exact hown
  · exact ((Kept.refl c v.ownBlock w1).grown hgrow (.inl rfl)).setCell _ _
  · rcases hat with h | h
    · exact .inl h
    · exact .inr ⟨_, h, Nat.le_refl _⟩

set_option maxRecDepth 100000 in
set_option maxHeartbeats 1600000 in
theorem mput_ok (c : Nat) (v : Value) (lim : Int) (l : List UInt8) (g cm : Nat) (xs : List UInt8) (w : World) (h : MwAt w c v lim l 0)
    (h0 : 0 ≤ lim) (h1 : lim ≤ 9223372036854775807) (hl : l.length + xs.length ≤ 140737488355328) (hs : (xs.length : Int) ≤ lim - l.length)
    (hsrc : ∀ j u, (bC xs)[j]? = some u → w.cell? ⟨g, j, none⟩ = some u) :
    Calls Tryz.prog 124 #[.pointer (some ⟨c, 0, none⟩), .slice (some ⟨g, 0, none⟩) xs.length cm, .bool true] w fun e w' => e = .returned (.tuple #[]) ∧ ∃ v', MwAt w' c v' lim (l ++ xs) 0 ∧ Kept c v.ownBlock w w' ∧ Moved w v v' := by
  obtain ⟨i0, hi0, hz0, hz1, hz2⟩ := info_parts Tryz.info5
  obtain ⟨av, cap, rfl⟩ := h.form
  have c0 := h.c0
  have c1 := h.c1
  have c2 := h.c2
  have f0 := h.fr 0
  have hlt := h.lt
  have ho := h.own
  have HH := hid h
  have HS := hid hsrc
  clear h hsrc
  have hbv : some c ≠ (Value.slice av l.length cap).ownBlock := fun e => by have := (ho.lt c e.symm).1; omega
  go_enter Tryz.func124, Tryz.ntmps124
  go_wp2
  go_region
  go_wp2_with (at_builtin; refine wpList_append_own_at _ rfl _ _ 160 rfl (c + 1) 5 i0 (.int .u8 0) 1 1 Tryz.underlying160 hi0 hz0 hz1 hz2 rfl (by decide) _ l.length (bC l) rfl (ownsRow_of_heap rfl ho) ⟨g, 0, none⟩ xs.length cm (bC xs) rfl (by rw [bC_len, Nat.mul_one]) ?cells ?one (by unfold maxLen; omega) (by omega) (by exact hlt) ?_)
  case cells =>
    intro j u hj
    rw [Addr.add_lit, Nat.zero_add]
    exact HS.out j u hj
  case one =>
    intro u hu
    obtain ⟨_, _, rfl⟩ := List.mem_map.1 hu
    rfl
  · intro v3 w3 hown3 hgrow _ hat
    have HT := hid (mput_step HH.out.drew hown3 hgrow hat)
    have cz : w3.cell? ⟨c, 0, none⟩ = some (.slice av l.length cap) := (hgrow.cell_far ⟨c, 0, none⟩ hlt hbv).trans c0
    have fz : w3.frozen? ⟨c, 0, none⟩ = false := (hgrow.frozen_far ⟨c, 0, none⟩ hlt hbv).trans f0
    obtain ⟨a3, n3, cap3, hv3⟩ : ∃ a3 n3 cap3, v3 = .slice a3 n3 cap3 := by
      rcases hown3.2 with ⟨hv, _⟩ | ⟨g, cap, cur, hv, _⟩
      · exact ⟨_, _, _, hv⟩
      · exact ⟨_, _, _, hv⟩
    rw [hv3] at HT ⊢
    clear hown3 hgrow hat ho hv3
    go_wp2
    first | go_end0 | refine bodyPost_ret (results_none rfl _ _ _) rfl ?_
    exact ⟨rfl, _, HT.out.1, ⟨HT.out.2.1.os, HT.out.2.1.tape, HT.out.2.1.output, HT.out.2.1.size, HT.out.2.1.block⟩, HT.out.2.2⟩

theorem mput_any (c : Nat) (v : Value) (lim : Int) (l : List UInt8) (er : Int) (g cm : Nat) (xs : List UInt8) (w : World) (h : MwAt w c v lim l er)
    (h0 : 0 ≤ lim) (h1 : lim ≤ 9223372036854775807) (hl : l.length + xs.length ≤ 140737488355328)
    (hsrc : ∀ j u, (bC xs)[j]? = some u → w.cell? ⟨g, j, none⟩ = some u) :
    Calls Tryz.prog 124 #[.pointer (some ⟨c, 0, none⟩), .slice (some ⟨g, 0, none⟩) xs.length cm, .bool true] w fun e w' => e = .returned (.tuple #[]) ∧
      ∃ v', MwAt w' c v' lim (if adm lim l.length er true xs.length = 0 then l ++ xs else l) (adm lim l.length er true xs.length) ∧ Kept c v.ownBlock w w' ∧ Moved w v v' := by
  by_cases he : er = 0
  · subst he
    by_cases hs : lim - l.length < xs.length
    · rw [adm_long _ _ _ hs, if_neg (by decide)]
      obtain ⟨a, cap, hv⟩ := h.form
      exact (mput_long c a l.length cap lim g xs.length cm w (hv ▸ h.c0) h.c1 h.c2 (h.fr 2) h0 h1 (by omega) hs).mono fun e w' ⟨e1, e2⟩ => ⟨e1, v, by rw [e2]; exact (h.err 3).drew, by rw [e2]; exact ((Kept.refl _ _ _).setCell _ _).drew, Moved.refl _ _⟩
    · rw [adm_ok _ _ _ hs, if_pos rfl]
      exact mput_ok c v lim l g cm xs w h h0 h1 hl (by omega) hsrc
  · rw [adm_er _ _ _ _ _ he, if_neg he]
    exact (mput_er c v lim l er _ w h (by simpa using he)).mono fun e w' ⟨e1, e2⟩ => ⟨e1, v, by rw [e2]; exact h, by rw [e2]; exact Kept.refl _ _ _, Moved.refl _ _⟩

end Go.Proofs.YtgmekkgbobmplaaGreat

/- The contracts of package pack's writers of eight bytes and of texts. -/
namespace Go.Proofs.YtgmekkgbobmplaaGreat
open Go.RowKit

/-- 'append(b, s...)' of a string onto a slice of bytes that the call owns: where the new slice lies. -/
theorem append_str (w : World) (base : Nat) (ty : TypeId) (i : TypeInfo) (hi : Tryz.prog.info? 5 = some i) (hz : i.zero = some (.int .u8 0)) (hsize : i.size = 1) (hby : i.bytes = 1)
    (v : Value) (n : Nat) (xs : List Value) (hown : w.ownsRow base 5 1 v n xs) (s : ByteArray) (hbytes : n + s.size ≤ 140737488355328) (hbase : base ≤ w.heap.size) :
    ∃ v' w', (Builtin.append_ #[160, 9] ty #[v, .string s]).run Tryz.prog w = .ok v' w' ∧ w'.ownsRow base 5 1 v' (n + s.size) (xs ++ bC s.data.toList) ∧ w.grownBy w' v.ownBlock ∧ (v'.ownBlock = v.ownBlock ∨ v'.ownBlock = some w.heap.size) := by
  obtain ⟨v', w', hr, h2, h3, h4⟩ := Lib.run_append_own_string (P := Tryz.prog) w base 160 9 ty 5 i Tryz.underlying160 Tryz.underlying9 hi hz hsize hby v n xs hown s (by unfold maxLen; omega) hbytes hbase
  refine ⟨v', w', hr, h2, h3, ?_⟩
  have hsrc := Src.ofString (P := Tryz.prog) w (tx := 9) Tryz.underlying9 s
  rcases hown.2 with ⟨rfl, rfl⟩ | ⟨g, cap, cur, rfl, hbg, hg, hnc, hcm, hcs, htake⟩
  · by_cases h0 : s.size = 0
    · have := h4.2 ⟨rfl, h0⟩
      subst this
      exact .inl rfl
    · have hgr := run_append_grow_src (P := Tryz.prog) w 160 9 ty 5 i (.int .u8 0) Tryz.underlying160 hi hz none 0 0 [] (by simpa using run_firstCells_none w.drew i.size 0 0 0) (.string s) s.size (byteCells s) (by rw [hsize]; exact hsrc) (by omega) (by omega) (by
        rw [hby, Nat.zero_add, nextslicecap_zero (by omega)]; omega)
      rw [hr] at hgr
      cases hgr
      exact .inr rfl
  · by_cases hroom : n + s.size ≤ cap
    · have hcz : cur.size = cap := by simpa using hcs
      have hrm := run_append_room_src (P := Tryz.prog) w 160 9 ty 5 i Tryz.underlying160 hi g 0 n cap (.string s) s.size (byteCells s) (by rw [hsize]; exact hsrc) hroom
        (fun j hj => by rw [byteCells_length] at hj; rw [hsize]; simp [World.cell?, hg]; omega) (fun j hj => by simp [World.frozen?, hg])
      rw [hr] at hrm
      cases hrm
      exact .inl rfl
    · have hgr := run_append_grow_src (P := Tryz.prog) w 160 9 ty 5 i (.int .u8 0) Tryz.underlying160 hi hz (some ⟨g, 0, none⟩) n cap xs
        (by rw [hsize]; exact run_firstCells_some w.drew 1 n ⟨g, 0, none⟩ n cap xs hown.1 (fun j u hj => hown.cells (g := g) rfl j u hj)) (.string s) s.size (byteCells s) (by rw [hsize]; exact hsrc) (by omega) (by omega) (by
        rw [hby]
        have := nextslicecap_le (need := n + s.size) (old := cap) (by omega)
        omega)
      rw [hr] at hgr
      cases hgr
      exact .inr rfl

theorem wpList_append_str (w : World) {ops : Array Oper} {rest : List Oper} {o : Oper} {a : Act} {Q : Exit → Act → World → Prop} (hgd : o.guard = none) (sl x : Operand)
    (ho : o.op = .call { callee := .builtin .append, args := #[sl, x], argTypes := #[160, 9] })
    (base : Nat) (i : TypeInfo) (hi : Tryz.prog.info? 5 = some i) (hz : i.zero = some (.int .u8 0)) (hsize : i.size = 1) (hby : i.bytes = 1)
    (v : Value) (n : Nat) (xs : List Value) (hs : a.eval sl = v) (hown : w.ownsRow base 5 1 v n xs) (s : ByteArray) (hx : a.eval x = .string s)
    (hbytes : n + s.size ≤ 140737488355328) (hbase : base ≤ w.heap.size)
    (h : ∀ v' w', w'.ownsRow base 5 1 v' (n + s.size) (xs ++ bC s.data.toList) → w.grownBy w' v.ownBlock → (v'.ownBlock = v.ownBlock ∨ v'.ownBlock = some w.heap.size) → wpList Tryz.prog ops Q rest (a.put o.dst v') w') : wpList Tryz.prog ops Q (o :: rest) a w := by
  refine wpList_plain hgd fun K hK => ?_
  obtain ⟨v', w', hr, h2, h3, h4⟩ := append_str w base o.type i hi hz hsize hby v n xs hown s hbytes hbase
  unfold Oper.wp execOp
  simp only [ho, resolve, invoke, builtin, Sem.run_bind, Sem.run_pure, Result.andThen_ok, List.map_toArray, List.map_cons, List.map_nil, hs, hx, hr]
  exact hK _ _ (h v' w' h2 h3 h4)

/-- The error behind eight bytes; the bytes. -/
def bE (lim : Int) (l : List UInt8) (er : Int) : Int := adm lim l.length er true 8
def bL (lim : Int) (l : List UInt8) (er : Int) (n : Nat) : List UInt8 := if bE lim l er = 0 then l ++ be 8 n else l

set_option maxRecDepth 100000 in
set_option maxHeartbeats 800000 in
theorem wbits_yes (b : Nat) (v : Value) (lim : Int) (l : List UInt8) (er : Int) (m : Nat) (w : World) (h : WrAt w b v lim l er)
    (h0 : 0 ≤ lim) (h1 : lim ≤ 9223372036854775807) (hl : l.length + 8 ≤ 140737488355328) (n1 : m < 18446744073709551616) (hd : adm lim l.length er true 8 = 0) :
    Calls Tryz.prog 143 #[.pointer (some ⟨b, 0, none⟩), .int .u64 m] w fun e w' => e = .returned (.tuple #[]) ∧ ∃ v', WrAt w' b v' lim (l ++ be 8 m) 0 ∧ Kept b v.ownBlock w w' ∧ Moved w v v' := by
  have ha := admits_any b v lim l er true 8 w h h0 h1 (by omega)
  have hdd : decide (adm lim l.length er true 8 = 0) = true := by simpa using hd
  rw [hdd, hd] at ha
  have HA := hid ha
  have HL := hid hl
  have HM := hid n1
  clear ha h hd hdd hl n1 h0 h1
  go_enter Tryz.func143, Tryz.ntmps143
  go_wp2_with fail
  refine HA.out.mono ?_
  rintro e w1 ⟨rfl, hr, hk⟩
  have HR := hid hr
  have HK := hid hk
  clear hr hk
  go_wp2_with fail
  refine (put_any b v lim l 0 m 8 w1 HR.out (by omega) HM.out HL.out).mono ?_
  rintro e w2 ⟨rfl, v', hv, hk2, hm⟩
  have HV := hid hv
  have HK2 := hid (And.intro hk2 hm)
  clear hv hk2 hm
  go_wp2
  go_end0
  exact ⟨rfl, v', HV.out, (kept_none HK.out).trans HK2.out.1 (.inl rfl), (Moved.refl w v).trans HK2.out.2 HK.out.size⟩

set_option maxHeartbeats 800000 in
theorem wbits_no (b : Nat) (v : Value) (lim : Int) (l : List UInt8) (er : Int) (m : Nat) (w : World) (h : WrAt w b v lim l er)
    (h0 : 0 ≤ lim) (h1 : lim ≤ 9223372036854775807) (hl : l.length + 8 ≤ 140737488355328) (E : Int) (hE : adm lim l.length er true 8 = E) (hd : E ≠ 0) :
    Calls Tryz.prog 143 #[.pointer (some ⟨b, 0, none⟩), .int .u64 m] w fun e w' => e = .returned (.tuple #[]) ∧ ∃ v', WrAt w' b v' lim l E ∧ Kept b v.ownBlock w w' ∧ Moved w v v' := by
  have ha := admits_any b v lim l er true 8 w h h0 h1 (by omega)
  have hdd : decide (E = 0) = false := by simpa using hd
  rw [hE, hdd] at ha
  have HA := hid ha
  clear ha h hE hd hdd hl h0 h1
  go_enter Tryz.func143, Tryz.ntmps143
  go_wp2_with fail
  refine HA.out.mono ?_
  rintro e w1 ⟨rfl, hr, hk⟩
  have HR := hid hr
  have HK := hid hk
  clear hr hk
  go_wp2
  go_end0
  exact ⟨rfl, v, HR.out, kept_none HK.out, Moved.refl _ _⟩

theorem wbits_any (b : Nat) (v : Value) (lim : Int) (l : List UInt8) (er : Int) (m : Nat) (w : World) (h : WrAt w b v lim l er)
    (h0 : 0 ≤ lim) (h1 : lim ≤ 9223372036854775807) (hl : l.length + 8 ≤ 140737488355328) (n1 : m < 18446744073709551616) :
    Calls Tryz.prog 143 #[.pointer (some ⟨b, 0, none⟩), .int .u64 m] w fun e w' => e = .returned (.tuple #[]) ∧ ∃ v', WrAt w' b v' lim (bL lim l er m) (bE lim l er) ∧ Kept b v.ownBlock w w' ∧ Moved w v v' := by
  unfold bL bE
  by_cases hd : adm lim l.length er true 8 = 0
  · simpa [hd] using wbits_yes b v lim l er m w h h0 h1 hl n1 hd
  · simpa [hd] using wbits_no b v lim l er m w h h0 h1 hl _ rfl hd

/-- The error behind a text; the bytes. -/
def xE (lim : Int) (l : List UInt8) (er : Int) (s : ByteArray) : Int := adm lim l.length er (decide (s.size ≤ 65535)) (2 + s.size)
def xL (lim : Int) (l : List UInt8) (er : Int) (s : ByteArray) : List UInt8 := if xE lim l er s = 0 then l ++ (be 2 s.size ++ s.data.toList) else l

theorem put_text {w1 w2 : World} {b : Nat} {v v' : Value} {lim : Int} {L : List UInt8} {er : Int} {s : ByteArray} (hR : WrAt w1 b v lim L er)
    (hown : w2.ownsRow (b + 1) 5 1 v' (L.length + s.size) (bC L ++ bC s.data.toList)) (hgrow : w1.grownBy w2 v.ownBlock) (hat : v'.ownBlock = v.ownBlock ∨ v'.ownBlock = some w1.heap.size) :
    WrAt (w2.setCell ⟨b, 1, none⟩ v') b v' lim (L ++ s.data.toList) er ∧ Kept b v.ownBlock w1 (w2.setCell ⟨b, 1, none⟩ v') ∧ Moved w1 v v' := by
  have hbv : some b ≠ v.ownBlock := fun e => by have := (hR.own.lt b e.symm).1; omega
  have hb1 : w2.heap[b]? = some (.cells #[.int .i64 lim, v, .int .i64 er] 162 (0, 0)) := by
    rw [hgrow.block b hR.lt hbv]
    exact hR.blk
  refine ⟨WrAt.bytes hb1 ?_, ?_, ?_⟩
  · rw [bC_app, List.length_append, Array.length_toList]; exact hown
  · exact ((Kept.refl b v.ownBlock w1).grown hgrow (.inl rfl)).setCell _ _
  · rcases hat with h | h
    · exact .inl h
    · exact .inr ⟨_, h, Nat.le_refl _⟩

set_option maxRecDepth 100000 in
set_option maxHeartbeats 1600000 in
theorem wtext_yes (b : Nat) (v : Value) (lim : Int) (l : List UInt8) (er : Int) (s : ByteArray) (w : World) (h : WrAt w b v lim l er)
    (h0 : 0 ≤ lim) (h1 : lim ≤ 9223372036854775807) (hs : s.size ≤ 65535) (hl : l.length + 8 ≤ 140737488355328) (hl2 : l.length + (2 + s.size) ≤ 140737488355328) (hd : adm lim l.length er true (2 + s.size) = 0) :
    Calls Tryz.prog 117 #[.pointer (some ⟨b, 0, none⟩), .string s] w fun e w' => e = .returned (.tuple #[]) ∧ ∃ v', WrAt w' b v' lim (l ++ (be 2 s.size ++ s.data.toList)) 0 ∧ Kept b v.ownBlock w w' ∧ Moved w v v' := by
  obtain ⟨i0, hi0, hz0, hz1, hz2⟩ := info_parts Tryz.info5
  have ha := admits_any b v lim l er true (2 + s.size) w h h0 h1 (by omega)
  have hdd : decide (adm lim l.length er true (2 + s.size) = 0) = true := by simpa using hd
  rw [hdd, hd] at ha
  have HA := hid ha
  have HL := hid hl
  have HL2 := hid hl2
  have hsi : (s.size : Int) ≤ 65535 := by omega
  clear ha h hd hdd hl hl2 h0 h1 hs
  go_enter Tryz.func117, Tryz.ntmps117
  go_wp2_with fail
  refine HA.out.mono ?_
  rintro e w1 ⟨rfl, hr, hk⟩
  have HR := hid hr
  have HK := hid hk
  clear hr hk
  go_wp2_with fail
  refine (put_any b v lim l 0 s.size 2 w1 HR.out (by omega) (by omega) HL.out).mono ?_
  rintro e w2 ⟨rfl, v2, hv, hk2, hm⟩
  have HV := hid hv
  have HK2 := hid (And.intro ((kept_none HK.out).trans hk2 (.inl rfl)) ((Moved.refl w v).trans hm HK.out.size))
  have c1 := hv.c1
  have f1 := hv.fr 1
  have hlt := hv.lt
  have hbv : some b ≠ v2.ownBlock := fun e => by have := (hv.own.lt b e.symm).1; omega
  have ho := hv.own
  have hb2 : (l ++ be 2 s.size).length + s.size ≤ 140737488355328 := by rw [List.length_append, be_len]; have := HL2.out; omega
  clear hv hk2 hm
  go_wp2_with (at_builtin; refine wpList_append_str _ rfl _ _ rfl (b + 1) i0 hi0 hz0 hz1 hz2 v2 (l ++ be 2 s.size).length (bC (l ++ be 2 s.size)) rfl ho s rfl hb2 (by omega) ?_)
  intro v3 w3 hown3 hgrow hat
  rw [← List.length_append] at hown3
  have HS := hid (put_text HV.out hown3 hgrow hat)
  have cz : w3.cell? ⟨b, 1, none⟩ = some v2 := (hgrow.cell_far ⟨b, 1, none⟩ hlt hbv).trans c1
  have fz : w3.frozen? ⟨b, 1, none⟩ = false := (hgrow.frozen_far ⟨b, 1, none⟩ hlt hbv).trans f1
  obtain ⟨av, nv, capv, hv3⟩ : ∃ av nv capv, v3 = .slice av nv capv := by
    rcases hown3.2 with ⟨hv, _⟩ | ⟨g, cap, cur, hv, _⟩
    · exact ⟨_, _, _, hv⟩
    · exact ⟨_, _, _, hv⟩
  rw [hv3] at HS ⊢
  clear hown3 hgrow hat ho hv3
  go_wp2
  go_end0
  refine ⟨rfl, _, ?_, HK2.out.1.trans HS.out.2.1 HK2.out.2, HK2.out.2.trans HS.out.2.2 HK2.out.1.size⟩
  rw [← List.append_assoc]
  exact HS.out.1

set_option maxHeartbeats 800000 in
theorem wtext_no (b : Nat) (v : Value) (lim : Int) (l : List UInt8) (er : Int) (s : ByteArray) (w : World) (h : WrAt w b v lim l er)
    (h0 : 0 ≤ lim) (h1 : lim ≤ 9223372036854775807) (hs : s.size ≤ 9223372036854775805) (hl : l.length + 8 ≤ 140737488355328) (E : Int) (r : Bool) (hr : decide ((s.size : Int) ≤ 65535) = r) (hE : adm lim l.length er r (2 + s.size) = E) (hd : E ≠ 0) :
    Calls Tryz.prog 117 #[.pointer (some ⟨b, 0, none⟩), .string s] w fun e w' => e = .returned (.tuple #[]) ∧ ∃ v', WrAt w' b v' lim l E ∧ Kept b v.ownBlock w w' ∧ Moved w v v' := by
  have ha := admits_any b v lim l er r (2 + s.size) w h h0 h1 (by omega)
  have hdd : decide (E = 0) = false := by simpa using hd
  rw [hE, hdd] at ha
  have HA := hid ha
  clear ha h hE hd hdd hl h0 h1
  go_enter Tryz.func117, Tryz.ntmps117
  go_wp2_with fail
  refine HA.out.mono ?_
  rintro e w1 ⟨rfl, hr, hk⟩
  have HR := hid hr
  have HK := hid hk
  clear hr hk
  go_wp2
  go_end0
  exact ⟨rfl, v, HR.out, kept_none HK.out, Moved.refl _ _⟩

theorem wtext_any (b : Nat) (v : Value) (lim : Int) (l : List UInt8) (er : Int) (s : ByteArray) (w : World) (h : WrAt w b v lim l er)
    (h0 : 0 ≤ lim) (h1 : lim ≤ 9223372036854775807) (hs : s.size ≤ 9223372036854775805) (hl : l.length + 8 ≤ 140737488355328) (hl2 : xE lim l er s = 0 → l.length + (2 + s.size) ≤ 140737488355328) :
    Calls Tryz.prog 117 #[.pointer (some ⟨b, 0, none⟩), .string s] w fun e w' => e = .returned (.tuple #[]) ∧ ∃ v', WrAt w' b v' lim (xL lim l er s) (xE lim l er s) ∧ Kept b v.ownBlock w w' ∧ Moved w v v' := by
  unfold xL
  by_cases hd : xE lim l er s = 0
  · have hs2 : s.size ≤ 65535 := by
      by_cases h2 : s.size ≤ 65535
      · exact h2
      · exfalso
        unfold xE adm at hd
        simp [h2] at hd
        split at hd <;> simp_all
    have hd2 : adm lim l.length er true (2 + s.size) = 0 := by
      unfold xE at hd
      simpa [hs2] using hd
    rw [if_pos hd, hd]
    exact wtext_yes b v lim l er s w h h0 h1 hs2 hl (hl2 hd) hd2
  · rw [if_neg hd]
    exact wtext_no b v lim l er s w h h0 h1 hs hl _ (decide (s.size ≤ 65535)) (by simp; omega) rfl hd

end Go.Proofs.YtgmekkgbobmplaaGreat
