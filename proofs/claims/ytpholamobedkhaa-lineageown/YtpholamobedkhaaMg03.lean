/- Texts laid together: PkP PkN MwA MwB MwC. -/
import Derived.Test.YtpholamobedkhaaMg02
import Derived.Deep.RegionLaw
import Derived.Laws.MakeOwn
import Derived.Maps.AppendAt
/- The contract of package pack's writer of bytes ('put'). -/
namespace Go.Proofs.Ytpholamobedkhaa
open Go.RowKit
attribute [local go_sem ↓] Go.wp_at_zero Go.wp_at_succ

/-- A slice of the writer's own lies where it lay, or in a block that is new. -/
def Moved (w : World) (v v' : Value) : Prop := v'.ownBlock = v.ownBlock ∨ ∃ g, v'.ownBlock = some g ∧ w.heap.size ≤ g
theorem Moved.refl (w : World) (v : Value) : Moved w v v := .inl rfl
theorem Moved.trans {w w' : World} {a b c : Value} (h : Moved w a b) (k : Moved w' b c) (hs : w.heap.size ≤ w'.heap.size) : Moved w a c := by
  rcases k with k | ⟨g, k, hg⟩
  · rcases h with h | ⟨g, h, hg⟩
    · exact .inl (k.trans h)
    · exact .inr ⟨g, k.trans h, hg⟩
  · exact .inr ⟨g, k, by omega⟩

theorem WrAt.bytes {w : World} {b : Nat} {v : Value} {lim : Int} {er : Int} (h : w.heap[b]? = some (.cells #[.int .i64 lim, v, .int .i64 er] 97 (0, 0))) {v' : Value} {l' : List UInt8} (ho : w.ownsRow (b + 1) 5 1 v' l'.length (bC l')) :
    WrAt (w.setCell ⟨b, 1, none⟩ v') b v' lim l' er :=
  ⟨by simp [World.setCell, Array.getElem?_modify, h], ownsRow_setCell_below ho (by show b < b + 1; omega) _⟩

/-- What an append to the writer's bytes, and the store behind it, leave. -/
theorem put_step {wr w1 : World} {b : Nat} {v : Value} {lim : Int} {L C : List UInt8} {er : Int} {o : Obj} {gg cap N : Nat} {news : List Value} (hR : WrAt wr b v lim L er)
    (hn : news = bC C) (hN : N = L.length + C.length)
    (hown1 : w1.ownsRow (b + 1) 5 1 (.slice (some ⟨gg, 0, none⟩) N cap) N (bC L ++ news)) (hgrow : (wr.alloc o).drew.grownBy w1 v.ownBlock) (hat : v.ownBlock = some gg ∨ gg = wr.heap.size + 1) :
    WrAt (w1.setCell ⟨b, 1, none⟩ (.slice (some ⟨gg, 0, none⟩) N cap)) b (.slice (some ⟨gg, 0, none⟩) N cap) lim (L ++ C) er ∧ Kept b v.ownBlock wr (w1.setCell ⟨b, 1, none⟩ (.slice (some ⟨gg, 0, none⟩) N cap)) ∧ Moved wr v (.slice (some ⟨gg, 0, none⟩) N cap) := by
  have hlt := hR.lt
  have hbv : some b ≠ v.ownBlock := fun e => by have := (hR.own.lt b e.symm).1; omega
  subst hn
  have hb1 : w1.heap[b]? = some (.cells #[.int .i64 lim, v, .int .i64 er] 97 (0, 0)) := by
    rw [hgrow.block b (by simp; omega) hbv]
    exact (Below.heap_alloc wr _ b hlt).trans hR.blk
  refine ⟨WrAt.bytes hb1 ?_, ?_, ?_⟩
  · rw [bC_app, List.length_append, ← hN]; exact hown1
  · exact ((((Kept.refl b v.ownBlock wr).alloc _).drew).grown hgrow (.inl rfl)).setCell _ _
  · rcases hat with h | h
    · exact .inl h.symm
    · exact .inr ⟨gg, rfl, by omega⟩

/-- The byte of place j, with all that lies ahead of it. -/
def upto (n j : Nat) : Nat := n / 256 ^ j
theorem upto_byte (n j : Nat) : IntKind.u8.wrap (upto n j : Int) = ((UInt8.ofNat (n / 256 ^ j)).toNat : Int) := by
  have e : (UInt8.ofNat (n / 256 ^ j)).toNat = n / 256 ^ j % 256 := by simp
  rw [e, IntKind.wrap_u8', upto]
  omega
theorem shr_run (n j : Nat) (hj : j ≤ 7) (w : World) : Sem.run Try.prog (Op.shift BinOp.shr IntKind.u64 (n : Int) IntKind.i64 (IntKind.i64.wrap (8 * (j : Int)))) w = .ok (.int .u64 (upto n j : Int)) w := by
  have e : IntKind.i64.wrap (8 * (j : Int)) = ((8 * j : Nat) : Int) := by rw [IntKind.wrap_i64]; omega
  rw [e, shift_shr_any _ _ _ _ (Int.natCast_nonneg _)]
  have e2 : min ((8 * j : Nat) : Int).toNat IntKind.u64.bits = 8 * j := by simp [IntKind.bits]; omega
  have e3 : ((2 : Int) ^ (8 * j)) = ((256 ^ j : Nat) : Int) := by rw [show (256 : Nat) = 2 ^ 8 from rfl, ← Nat.pow_mul]; simp
  rw [e2, upto, e3]
  simp

set_option maxRecDepth 100000 in
set_option maxHeartbeats 1600000 in
theorem put_any (b : Nat) (v0 : Value) (lim : Int) (l : List UInt8) (er : Int) (n size : Nat) (w : World) (h : WrAt w b v0 lim l er) (hs : size ≤ 8) (hn : n < 18446744073709551616) (hl : l.length + 8 ≤ 140737488355328) :
    Calls Try.prog 68 #[.pointer (some ⟨b, 0, none⟩), .int .u64 n, .int .i64 size] w fun e w' => e = .returned (.tuple #[]) ∧ ∃ v', WrAt w' b v' lim (l ++ be size n) er ∧ Kept b v0.ownBlock w w' ∧ Moved w v0 v' := by
  obtain ⟨i0, hi0, hz0, hz1, hz2⟩ := info_parts Try.info5
  have HN : Hid (n < 18446744073709551616) := hn
  have HW : Hid (WrAt w b v0 lim l er) := h
  clear hn h
  go_enter Try.func68, Try.ntmps68
  go_wp2
  go_loopw [6] (fun i wr => ∃ (k : Nat) (P : List UInt8) (v : Value), k ≤ size ∧ i = .int .i64 ((k : Int) - 1) ∧ P ++ be k n = be size n ∧ WrAt wr b v lim (l ++ P) er ∧ Kept b v0.ownBlock w wr ∧ Moved w v0 v)
    (fun i _ => (intOf i + 1).toNat)
  case atStart => exact ⟨size, [], v0, Nat.le_refl _, rfl, rfl, by simpa using HW.out, Kept.refl _ _ _, Moved.refl _ _⟩
  case round =>
    obtain ⟨k, P, v, hk, rfl, hP, hwr, hkept, hmov⟩ := hrel
    have hlt := hwr.lt
    have HP : Hid (P ++ be k n = be size n) := hP
    have HR : Hid (WrAt wr b v lim (l ++ P) er) := hwr
    have HK : Hid (Kept b v0.ownBlock w wr ∧ Moved w v0 v) := ⟨hkept, hmov⟩
    have hPl : P.length + k = size := by have := congrArg List.length hP; simpa [be_len] using this
    have c1 := hwr.c1
    have f1 := hwr.fr 1
    clear hP hwr hkept hmov
    cases k with
    | zero =>
      go_wp2
      go_end0
      refine ⟨rfl, v, ?_, HK.out⟩
      have e : P = be size n := by simpa [be] using HP.out
      rw [← e]; exact HR.out
    | succ j =>
      have ej : (((j + 1 : Nat) : Int) - 1) = (j : Int) := by omega
      rw [ej]
      clear ej
      have hj0 : (0 : Int) ≤ (j : Int) := Int.natCast_nonneg _
      have hj7 : (j : Int) ≤ 7 := by omega
      have hsh := shr_run n j (by omega)
      have ho := HR.out.own
      have hbv : some b ≠ v.ownBlock := fun e => by have := (ho.lt b e.symm).1; omega
      have hlen : (l ++ P).length + 1 ≤ 140737488355328 := by simp; omega
      go_wp2_with fail
      go_region_law
        ((refine step_append_lies _ (by rfl) _ _ _ (by rfl) (b + 1) 5 i0 _ 1 1 Try.underlying89 hi0 hz0 hz1 hz2 rfl (by omega) v (l ++ P).length (bC (l ++ P)) (by rfl) ((ho.alloc _).drew)
            ⟨wr.heap.size, 0, none⟩ 1 1 [.int .u8 (IntKind.u8.wrap (upto n j : Int))] (by rfl) (by rfl) (World.news_of_block (cs := #[.int .u8 (IntKind.u8.wrap (upto n j : Int))]) (t := 5) (fr := (0, 0)) (heap_alloc_new wr _)) (by simp [Value.oneCell'])
            (by omega) (by unfold maxLen; omega) (by omega) (by simp; omega) (wr.heap.size + 1) (by simp) ?_; intro gg cap w1 hown1 hgrow hat hlt1; have fz : w1.frozen? ⟨b, 1, none⟩ = false := (hgrow.frozen_far _ (by simp; omega) hbv).trans ((World.frozen?_of_block (Below.heap_alloc wr _ b hlt)).trans f1); have cz : w1.cell? ⟨b, 1, none⟩ = some v := (hgrow.cell_far _ (by simp; omega) hbv).trans ((World.cell?_of_block (Below.heap_alloc wr _ b hlt)).trans c1)))
      all_goals go_wp2
      all_goals
        go_roundw
        case rel =>
          have st := put_step (C := [UInt8.ofNat (n / 256 ^ j)]) HR.out (by simp [bC, upto_byte]) (by simp) hown1 hgrow hat
          rw [List.length_append] at st
          have hk2 := HK.out
          exact ⟨j, P ++ [UInt8.ofNat (n / 256 ^ j)], _, by omega, by go_num, by rw [List.append_assoc]; exact HP.out, by rw [← List.append_assoc]; exact st.1, hk2.1.trans st.2.1 hk2.2, hk2.2.trans st.2.2 hk2.1.size⟩
        case measure => simp [intOf]

end Go.Proofs.Ytpholamobedkhaa

/- The contracts of package pack's writers of numbers. -/
namespace Go.Proofs.Ytpholamobedkhaa
open Go.RowKit

theorem kept_none {b : Nat} {r : Option Nat} {w w' : World} (h : Kept b none w w') : Kept b r w w' := ⟨h.os, h.tape, h.output, h.size, fun k hk hb _ => h.block k hk hb (by simp)⟩

/-- Is the number one of so many bytes? -/
def inR (s : Nat) (n : Int) : Bool := decide (0 ≤ n ∧ n < ((256 ^ s : Nat) : Int))
/-- The error behind a number of so many bytes; the bytes. -/
def wE (lim : Int) (l : List UInt8) (er : Int) (s : Nat) (n : Int) : Int := adm lim l.length er (inR s n) s
def wL (lim : Int) (l : List UInt8) (er : Int) (s : Nat) (n : Int) : List UInt8 := if adm lim l.length er (inR s n) s = 0 then l ++ be s n.toNat else l

set_option maxRecDepth 100000 in
set_option maxHeartbeats 800000 in
theorem wnum1_yes (b : Nat) (v : Value) (lim : Int) (l : List UInt8) (er : Int) (m : Nat) (w : World) (h : WrAt w b v lim l er)
    (h0 : 0 ≤ lim) (h1 : lim ≤ 9223372036854775807) (hl : l.length + 8 ≤ 140737488355328) (n1 : m < 256) (hd : adm lim l.length er true 1 = 0) :
    Calls Try.prog 63 #[.pointer (some ⟨b, 0, none⟩), .int .i64 m, .int .i64 1] w fun e w' => e = .returned (.tuple #[]) ∧ ∃ v', WrAt w' b v' lim (l ++ be 1 m) 0 ∧ Kept b v.ownBlock w w' ∧ Moved w v v' := by
  have hn : ((m : Int) / 256 == 0) = true := by simp; omega
  have ha := admits_any b v lim l er true 1 w h h0 h1 (by omega)
  have hdd : decide (adm lim l.length er true 1 = 0) = true := by simpa using hd
  rw [hdd, hd] at ha
  have HA := hid ha
  have HL := hid hl
  have hm0 : (0 : Int) ≤ (m : Int) := Int.natCast_nonneg _
  have hm1 : (m : Int) ≤ 4294967296 := by omega
  have HM : Hid (m < 18446744073709551616) := by unfold Hid; omega
  clear ha h hd hdd hl n1 h0 h1
  go_enter Try.func63, Try.ntmps63
  go_wp2_with fail
  refine HA.out.mono ?_
  rintro e w1 ⟨rfl, hr, hk⟩
  have HR := hid hr
  have HK := hid hk
  clear hr hk hn
  go_wp2_with fail
  refine (put_any b v lim l 0 m 1 w1 HR.out (by omega) HM.out HL.out).mono ?_
  rintro e w2 ⟨rfl, v', hv, hk2, hm⟩
  have HV := hid hv
  have HK2 := hid (And.intro hk2 hm)
  clear hv hk2 hm
  go_wp2
  go_end0
  exact ⟨rfl, v', HV.out, (kept_none HK.out).trans HK2.out.1 (.inl rfl), (Moved.refl w v).trans HK2.out.2 HK.out.size⟩

set_option maxRecDepth 100000 in
set_option maxHeartbeats 800000 in
theorem wnum1_no (b : Nat) (v : Value) (lim : Int) (l : List UInt8) (er : Int) (m : Nat) (w : World) (h : WrAt w b v lim l er)
    (h0 : 0 ≤ lim) (h1 : lim ≤ 9223372036854775807) (hl : l.length + 8 ≤ 140737488355328) (n1 : m < 256) (E : Int) (hE : adm lim l.length er true 1 = E) (hd : E ≠ 0) :
    Calls Try.prog 63 #[.pointer (some ⟨b, 0, none⟩), .int .i64 m, .int .i64 1] w fun e w' => e = .returned (.tuple #[]) ∧ ∃ v', WrAt w' b v' lim l E ∧ Kept b v.ownBlock w w' ∧ Moved w v v' := by
  have hn : ((m : Int) / 256 == 0) = true := by simp; omega
  have ha := admits_any b v lim l er true 1 w h h0 h1 (by omega)
  have hdd : decide (E = 0) = false := by simpa using hd
  rw [hE, hdd] at ha
  have HA := hid ha
  have hm0 : (0 : Int) ≤ (m : Int) := Int.natCast_nonneg _
  have hm1 : (m : Int) ≤ 4294967296 := by omega
  clear ha h hE hd hdd hl n1 h0 h1
  go_enter Try.func63, Try.ntmps63
  go_wp2_with fail
  refine HA.out.mono ?_
  rintro e w1 ⟨rfl, hr, hk⟩
  have HR := hid hr
  have HK := hid hk
  clear hr hk hn
  go_wp2
  go_end0
  exact ⟨rfl, v, HR.out, kept_none HK.out, Moved.refl _ _⟩

set_option maxRecDepth 100000 in
set_option maxHeartbeats 800000 in
theorem wnum1_out (b : Nat) (v : Value) (lim : Int) (l : List UInt8) (er : Int) (n : Int) (w : World) (h : WrAt w b v lim l er)
    (h0 : 0 ≤ lim) (h1 : lim ≤ 9223372036854775807) (hl : l.length + 8 ≤ 140737488355328) (hi : n ≤ 9223372036854775807) (hn : n < 0 ∨ 256 ≤ n) (E : Int) (hE : adm lim l.length er false 1 = E) :
    Calls Try.prog 63 #[.pointer (some ⟨b, 0, none⟩), .int .i64 n, .int .i64 1] w fun e w' => e = .returned (.tuple #[]) ∧ ∃ v', WrAt w' b v' lim l E ∧ Kept b v.ownBlock w w' ∧ Moved w v v' := by
  have ha := admits_any b v lim l er false 1 w h h0 h1 (by omega)
  have hd : ¬ E = 0 := by rw [← hE]; unfold adm; split <;> simp_all
  have hdd : decide (E = 0) = false := by simpa using hd
  rw [hE, hdd] at ha
  have HA := hid ha
  clear ha h hd hdd hE hl h0 h1
  rcases hn with hn | hn
  · go_enter Try.func63, Try.ntmps63
    go_wp2_with fail
    refine HA.out.mono ?_
    rintro e w1 ⟨rfl, hr, hk⟩
    have HR := hid hr
    have HK := hid hk
    clear hr hk
    go_wp2
    go_end0
    exact ⟨rfl, v, HR.out, kept_none HK.out, Moved.refl _ _⟩
  · have hq : (n / 256 == 0) = false := by simp; omega
    have hn0 : 0 ≤ n := by omega
    clear hn
    go_enter Try.func63, Try.ntmps63
    go_wp2_with fail
    refine HA.out.mono ?_
    rintro e w1 ⟨rfl, hr, hk⟩
    have HR := hid hr
    have HK := hid hk
    clear hr hk hq
    go_wp2
    go_end0
    exact ⟨rfl, v, HR.out, kept_none HK.out, Moved.refl _ _⟩

theorem wnum1_any (b : Nat) (v : Value) (lim : Int) (l : List UInt8) (er : Int) (n : Int) (w : World) (h : WrAt w b v lim l er)
    (h0 : 0 ≤ lim) (h1 : lim ≤ 9223372036854775807) (hl : l.length + 8 ≤ 140737488355328) (hi : n ≤ 9223372036854775807) :
    Calls Try.prog 63 #[.pointer (some ⟨b, 0, none⟩), .int .i64 n, .int .i64 1] w fun e w' => e = .returned (.tuple #[]) ∧ ∃ v', WrAt w' b v' lim (wL lim l er 1 n) (wE lim l er 1 n) ∧ Kept b v.ownBlock w w' ∧ Moved w v v' := by
  unfold wL wE inR
  by_cases hn : 0 ≤ n ∧ n < 256
  · have e : decide (0 ≤ n ∧ n < ((256 ^ 1 : Nat) : Int)) = true := by simp; omega
    rw [e]
    obtain ⟨m, rfl⟩ : ∃ m : Nat, n = m := ⟨n.toNat, by omega⟩
    by_cases hd : adm lim l.length er true 1 = 0
    · have := wnum1_yes b v lim l er m w h h0 h1 hl (by omega) hd
      simpa [hd] using this
    · have := wnum1_no b v lim l er m w h h0 h1 hl (by omega) _ rfl hd
      simpa [hd] using this
  · have e : decide (0 ≤ n ∧ n < ((256 ^ 1 : Nat) : Int)) = false := by simp; omega
    rw [e]
    have hd : ¬ adm lim l.length er false 1 = 0 := by unfold adm; split <;> simp_all
    have := wnum1_out b v lim l er n w h h0 h1 hl hi (by omega) _ rfl
    simpa [hd] using this

set_option maxRecDepth 100000 in
set_option maxHeartbeats 800000 in
theorem wnum2_yes (b : Nat) (v : Value) (lim : Int) (l : List UInt8) (er : Int) (m : Nat) (w : World) (h : WrAt w b v lim l er)
    (h0 : 0 ≤ lim) (h1 : lim ≤ 9223372036854775807) (hl : l.length + 8 ≤ 140737488355328) (n1 : m < 65536) (hd : adm lim l.length er true 2 = 0) :
    Calls Try.prog 63 #[.pointer (some ⟨b, 0, none⟩), .int .i64 m, .int .i64 2] w fun e w' => e = .returned (.tuple #[]) ∧ ∃ v', WrAt w' b v' lim (l ++ be 2 m) 0 ∧ Kept b v.ownBlock w w' ∧ Moved w v v' := by
  have hn : ((m : Int) / 65536 == 0) = true := by simp; omega
  have ha := admits_any b v lim l er true 2 w h h0 h1 (by omega)
  have hdd : decide (adm lim l.length er true 2 = 0) = true := by simpa using hd
  rw [hdd, hd] at ha
  have HA := hid ha
  have HL := hid hl
  have hm0 : (0 : Int) ≤ (m : Int) := Int.natCast_nonneg _
  have hm1 : (m : Int) ≤ 4294967296 := by omega
  have HM : Hid (m < 18446744073709551616) := by unfold Hid; omega
  clear ha h hd hdd hl n1 h0 h1
  go_enter Try.func63, Try.ntmps63
  go_wp2_with fail
  refine HA.out.mono ?_
  rintro e w1 ⟨rfl, hr, hk⟩
  have HR := hid hr
  have HK := hid hk
  clear hr hk hn
  go_wp2_with fail
  refine (put_any b v lim l 0 m 2 w1 HR.out (by omega) HM.out HL.out).mono ?_
  rintro e w2 ⟨rfl, v', hv, hk2, hm⟩
  have HV := hid hv
  have HK2 := hid (And.intro hk2 hm)
  clear hv hk2 hm
  go_wp2
  go_end0
  exact ⟨rfl, v', HV.out, (kept_none HK.out).trans HK2.out.1 (.inl rfl), (Moved.refl w v).trans HK2.out.2 HK.out.size⟩

set_option maxRecDepth 100000 in
set_option maxHeartbeats 800000 in
theorem wnum2_no (b : Nat) (v : Value) (lim : Int) (l : List UInt8) (er : Int) (m : Nat) (w : World) (h : WrAt w b v lim l er)
    (h0 : 0 ≤ lim) (h1 : lim ≤ 9223372036854775807) (hl : l.length + 8 ≤ 140737488355328) (n1 : m < 65536) (E : Int) (hE : adm lim l.length er true 2 = E) (hd : E ≠ 0) :
    Calls Try.prog 63 #[.pointer (some ⟨b, 0, none⟩), .int .i64 m, .int .i64 2] w fun e w' => e = .returned (.tuple #[]) ∧ ∃ v', WrAt w' b v' lim l E ∧ Kept b v.ownBlock w w' ∧ Moved w v v' := by
  have hn : ((m : Int) / 65536 == 0) = true := by simp; omega
  have ha := admits_any b v lim l er true 2 w h h0 h1 (by omega)
  have hdd : decide (E = 0) = false := by simpa using hd
  rw [hE, hdd] at ha
  have HA := hid ha
  have hm0 : (0 : Int) ≤ (m : Int) := Int.natCast_nonneg _
  have hm1 : (m : Int) ≤ 4294967296 := by omega
  clear ha h hE hd hdd hl n1 h0 h1
  go_enter Try.func63, Try.ntmps63
  go_wp2_with fail
  refine HA.out.mono ?_
  rintro e w1 ⟨rfl, hr, hk⟩
  have HR := hid hr
  have HK := hid hk
  clear hr hk hn
  go_wp2
  go_end0
  exact ⟨rfl, v, HR.out, kept_none HK.out, Moved.refl _ _⟩

set_option maxRecDepth 100000 in
set_option maxHeartbeats 800000 in
theorem wnum2_out (b : Nat) (v : Value) (lim : Int) (l : List UInt8) (er : Int) (n : Int) (w : World) (h : WrAt w b v lim l er)
    (h0 : 0 ≤ lim) (h1 : lim ≤ 9223372036854775807) (hl : l.length + 8 ≤ 140737488355328) (hi : n ≤ 9223372036854775807) (hn : n < 0 ∨ 65536 ≤ n) (E : Int) (hE : adm lim l.length er false 2 = E) :
    Calls Try.prog 63 #[.pointer (some ⟨b, 0, none⟩), .int .i64 n, .int .i64 2] w fun e w' => e = .returned (.tuple #[]) ∧ ∃ v', WrAt w' b v' lim l E ∧ Kept b v.ownBlock w w' ∧ Moved w v v' := by
  have ha := admits_any b v lim l er false 2 w h h0 h1 (by omega)
  have hd : ¬ E = 0 := by rw [← hE]; unfold adm; split <;> simp_all
  have hdd : decide (E = 0) = false := by simpa using hd
  rw [hE, hdd] at ha
  have HA := hid ha
  clear ha h hd hdd hE hl h0 h1
  rcases hn with hn | hn
  · go_enter Try.func63, Try.ntmps63
    go_wp2_with fail
    refine HA.out.mono ?_
    rintro e w1 ⟨rfl, hr, hk⟩
    have HR := hid hr
    have HK := hid hk
    clear hr hk
    go_wp2
    go_end0
    exact ⟨rfl, v, HR.out, kept_none HK.out, Moved.refl _ _⟩
  · have hq : (n / 65536 == 0) = false := by simp; omega
    have hn0 : 0 ≤ n := by omega
    clear hn
    go_enter Try.func63, Try.ntmps63
    go_wp2_with fail
    refine HA.out.mono ?_
    rintro e w1 ⟨rfl, hr, hk⟩
    have HR := hid hr
    have HK := hid hk
    clear hr hk hq
    go_wp2
    go_end0
    exact ⟨rfl, v, HR.out, kept_none HK.out, Moved.refl _ _⟩

theorem wnum2_any (b : Nat) (v : Value) (lim : Int) (l : List UInt8) (er : Int) (n : Int) (w : World) (h : WrAt w b v lim l er)
    (h0 : 0 ≤ lim) (h1 : lim ≤ 9223372036854775807) (hl : l.length + 8 ≤ 140737488355328) (hi : n ≤ 9223372036854775807) :
    Calls Try.prog 63 #[.pointer (some ⟨b, 0, none⟩), .int .i64 n, .int .i64 2] w fun e w' => e = .returned (.tuple #[]) ∧ ∃ v', WrAt w' b v' lim (wL lim l er 2 n) (wE lim l er 2 n) ∧ Kept b v.ownBlock w w' ∧ Moved w v v' := by
  unfold wL wE inR
  by_cases hn : 0 ≤ n ∧ n < 65536
  · have e : decide (0 ≤ n ∧ n < ((256 ^ 2 : Nat) : Int)) = true := by simp; omega
    rw [e]
    obtain ⟨m, rfl⟩ : ∃ m : Nat, n = m := ⟨n.toNat, by omega⟩
    by_cases hd : adm lim l.length er true 2 = 0
    · have := wnum2_yes b v lim l er m w h h0 h1 hl (by omega) hd
      simpa [hd] using this
    · have := wnum2_no b v lim l er m w h h0 h1 hl (by omega) _ rfl hd
      simpa [hd] using this
  · have e : decide (0 ≤ n ∧ n < ((256 ^ 2 : Nat) : Int)) = false := by simp; omega
    rw [e]
    have hd : ¬ adm lim l.length er false 2 = 0 := by unfold adm; split <;> simp_all
    have := wnum2_out b v lim l er n w h h0 h1 hl hi (by omega) _ rfl
    simpa [hd] using this

set_option maxRecDepth 100000 in
set_option maxHeartbeats 800000 in
theorem wnum4_yes (b : Nat) (v : Value) (lim : Int) (l : List UInt8) (er : Int) (m : Nat) (w : World) (h : WrAt w b v lim l er)
    (h0 : 0 ≤ lim) (h1 : lim ≤ 9223372036854775807) (hl : l.length + 8 ≤ 140737488355328) (n1 : m < 4294967296) (hd : adm lim l.length er true 4 = 0) :
    Calls Try.prog 63 #[.pointer (some ⟨b, 0, none⟩), .int .i64 m, .int .i64 4] w fun e w' => e = .returned (.tuple #[]) ∧ ∃ v', WrAt w' b v' lim (l ++ be 4 m) 0 ∧ Kept b v.ownBlock w w' ∧ Moved w v v' := by
  have hn : ((m : Int) / 4294967296 == 0) = true := by simp; omega
  have ha := admits_any b v lim l er true 4 w h h0 h1 (by omega)
  have hdd : decide (adm lim l.length er true 4 = 0) = true := by simpa using hd
  rw [hdd, hd] at ha
  have HA := hid ha
  have HL := hid hl
  have hm0 : (0 : Int) ≤ (m : Int) := Int.natCast_nonneg _
  have hm1 : (m : Int) ≤ 4294967296 := by omega
  have HM : Hid (m < 18446744073709551616) := by unfold Hid; omega
  clear ha h hd hdd hl n1 h0 h1
  go_enter Try.func63, Try.ntmps63
  go_wp2_with fail
  refine HA.out.mono ?_
  rintro e w1 ⟨rfl, hr, hk⟩
  have HR := hid hr
  have HK := hid hk
  clear hr hk hn
  go_wp2_with fail
  refine (put_any b v lim l 0 m 4 w1 HR.out (by omega) HM.out HL.out).mono ?_
  rintro e w2 ⟨rfl, v', hv, hk2, hm⟩
  have HV := hid hv
  have HK2 := hid (And.intro hk2 hm)
  clear hv hk2 hm
  go_wp2
  go_end0
  exact ⟨rfl, v', HV.out, (kept_none HK.out).trans HK2.out.1 (.inl rfl), (Moved.refl w v).trans HK2.out.2 HK.out.size⟩

set_option maxRecDepth 100000 in
set_option maxHeartbeats 800000 in
theorem wnum4_no (b : Nat) (v : Value) (lim : Int) (l : List UInt8) (er : Int) (m : Nat) (w : World) (h : WrAt w b v lim l er)
    (h0 : 0 ≤ lim) (h1 : lim ≤ 9223372036854775807) (hl : l.length + 8 ≤ 140737488355328) (n1 : m < 4294967296) (E : Int) (hE : adm lim l.length er true 4 = E) (hd : E ≠ 0) :
    Calls Try.prog 63 #[.pointer (some ⟨b, 0, none⟩), .int .i64 m, .int .i64 4] w fun e w' => e = .returned (.tuple #[]) ∧ ∃ v', WrAt w' b v' lim l E ∧ Kept b v.ownBlock w w' ∧ Moved w v v' := by
  have hn : ((m : Int) / 4294967296 == 0) = true := by simp; omega
  have ha := admits_any b v lim l er true 4 w h h0 h1 (by omega)
  have hdd : decide (E = 0) = false := by simpa using hd
  rw [hE, hdd] at ha
  have HA := hid ha
  have hm0 : (0 : Int) ≤ (m : Int) := Int.natCast_nonneg _
  have hm1 : (m : Int) ≤ 4294967296 := by omega
  clear ha h hE hd hdd hl n1 h0 h1
  go_enter Try.func63, Try.ntmps63
  go_wp2_with fail
  refine HA.out.mono ?_
  rintro e w1 ⟨rfl, hr, hk⟩
  have HR := hid hr
  have HK := hid hk
  clear hr hk hn
  go_wp2
  go_end0
  exact ⟨rfl, v, HR.out, kept_none HK.out, Moved.refl _ _⟩

set_option maxRecDepth 100000 in
set_option maxHeartbeats 800000 in
theorem wnum4_out (b : Nat) (v : Value) (lim : Int) (l : List UInt8) (er : Int) (n : Int) (w : World) (h : WrAt w b v lim l er)
    (h0 : 0 ≤ lim) (h1 : lim ≤ 9223372036854775807) (hl : l.length + 8 ≤ 140737488355328) (hi : n ≤ 9223372036854775807) (hn : n < 0 ∨ 4294967296 ≤ n) (E : Int) (hE : adm lim l.length er false 4 = E) :
    Calls Try.prog 63 #[.pointer (some ⟨b, 0, none⟩), .int .i64 n, .int .i64 4] w fun e w' => e = .returned (.tuple #[]) ∧ ∃ v', WrAt w' b v' lim l E ∧ Kept b v.ownBlock w w' ∧ Moved w v v' := by
  have ha := admits_any b v lim l er false 4 w h h0 h1 (by omega)
  have hd : ¬ E = 0 := by rw [← hE]; unfold adm; split <;> simp_all
  have hdd : decide (E = 0) = false := by simpa using hd
  rw [hE, hdd] at ha
  have HA := hid ha
  clear ha h hd hdd hE hl h0 h1
  rcases hn with hn | hn
  · go_enter Try.func63, Try.ntmps63
    go_wp2_with fail
    refine HA.out.mono ?_
    rintro e w1 ⟨rfl, hr, hk⟩
    have HR := hid hr
    have HK := hid hk
    clear hr hk
    go_wp2
    go_end0
    exact ⟨rfl, v, HR.out, kept_none HK.out, Moved.refl _ _⟩
  · have hq : (n / 4294967296 == 0) = false := by simp; omega
    have hn0 : 0 ≤ n := by omega
    clear hn
    go_enter Try.func63, Try.ntmps63
    go_wp2_with fail
    refine HA.out.mono ?_
    rintro e w1 ⟨rfl, hr, hk⟩
    have HR := hid hr
    have HK := hid hk
    clear hr hk hq
    go_wp2
    go_end0
    exact ⟨rfl, v, HR.out, kept_none HK.out, Moved.refl _ _⟩

theorem wnum4_any (b : Nat) (v : Value) (lim : Int) (l : List UInt8) (er : Int) (n : Int) (w : World) (h : WrAt w b v lim l er)
    (h0 : 0 ≤ lim) (h1 : lim ≤ 9223372036854775807) (hl : l.length + 8 ≤ 140737488355328) (hi : n ≤ 9223372036854775807) :
    Calls Try.prog 63 #[.pointer (some ⟨b, 0, none⟩), .int .i64 n, .int .i64 4] w fun e w' => e = .returned (.tuple #[]) ∧ ∃ v', WrAt w' b v' lim (wL lim l er 4 n) (wE lim l er 4 n) ∧ Kept b v.ownBlock w w' ∧ Moved w v v' := by
  unfold wL wE inR
  by_cases hn : 0 ≤ n ∧ n < 4294967296
  · have e : decide (0 ≤ n ∧ n < ((256 ^ 4 : Nat) : Int)) = true := by simp; omega
    rw [e]
    obtain ⟨m, rfl⟩ : ∃ m : Nat, n = m := ⟨n.toNat, by omega⟩
    by_cases hd : adm lim l.length er true 4 = 0
    · have := wnum4_yes b v lim l er m w h h0 h1 hl (by omega) hd
      simpa [hd] using this
    · have := wnum4_no b v lim l er m w h h0 h1 hl (by omega) _ rfl hd
      simpa [hd] using this
  · have e : decide (0 ≤ n ∧ n < ((256 ^ 4 : Nat) : Int)) = false := by simp; omega
    rw [e]
    have hd : ¬ adm lim l.length er false 4 = 0 := by unfold adm; split <;> simp_all
    have := wnum4_out b v lim l er n w h h0 h1 hl hi (by omega) _ rfl
    simpa [hd] using this

theorem wnum1_nil (n : Int) (w : World) : Calls Try.prog 63 #[.pointer none, .int .i64 n, .int .i64 1] w fun e w' => e = .returned (.tuple #[]) ∧ w' = w := by
  by_cases hn : 0 ≤ n
  · go_enter Try.func63, Try.ntmps63
    go_wp2_with (go_at_call 67; refine (admits_nil _ _ _).mono ?_; rintro e w1 ⟨rfl, rfl⟩)
    go_end0
    exact ⟨rfl, rfl⟩
  · go_enter Try.func63, Try.ntmps63
    go_wp2_with (go_at_call 67; refine (admits_nil _ _ _).mono ?_; rintro e w1 ⟨rfl, rfl⟩)
    go_end0
    exact ⟨rfl, rfl⟩

theorem wnum2_nil (n : Int) (w : World) : Calls Try.prog 63 #[.pointer none, .int .i64 n, .int .i64 2] w fun e w' => e = .returned (.tuple #[]) ∧ w' = w := by
  by_cases hn : 0 ≤ n
  · go_enter Try.func63, Try.ntmps63
    go_wp2_with (go_at_call 67; refine (admits_nil _ _ _).mono ?_; rintro e w1 ⟨rfl, rfl⟩)
    go_end0
    exact ⟨rfl, rfl⟩
  · go_enter Try.func63, Try.ntmps63
    go_wp2_with (go_at_call 67; refine (admits_nil _ _ _).mono ?_; rintro e w1 ⟨rfl, rfl⟩)
    go_end0
    exact ⟨rfl, rfl⟩

theorem wnum4_nil (n : Int) (w : World) : Calls Try.prog 63 #[.pointer none, .int .i64 n, .int .i64 4] w fun e w' => e = .returned (.tuple #[]) ∧ w' = w := by
  by_cases hn : 0 ≤ n
  · go_enter Try.func63, Try.ntmps63
    go_wp2_with (go_at_call 67; refine (admits_nil _ _ _).mono ?_; rintro e w1 ⟨rfl, rfl⟩)
    go_end0
    exact ⟨rfl, rfl⟩
  · go_enter Try.func63, Try.ntmps63
    go_wp2_with (go_at_call 67; refine (admits_nil _ _ _).mono ?_; rintro e w1 ⟨rfl, rfl⟩)
    go_end0
    exact ⟨rfl, rfl⟩

set_option maxHeartbeats 400000 in
theorem wbyte_any (b : Nat) (v : Value) (lim : Int) (l : List UInt8) (er : Int) (n : Int) (w : World) (h : WrAt w b v lim l er)
    (h0 : 0 ≤ lim) (h1 : lim ≤ 9223372036854775807) (hl : l.length + 8 ≤ 140737488355328) (hi : n ≤ 9223372036854775807) :
    Calls Try.prog 49 #[.pointer (some ⟨b, 0, none⟩), .int .i64 n] w fun e w' => e = .returned (.tuple #[]) ∧ ∃ v', WrAt w' b v' lim (wL lim l er 1 n) (wE lim l er 1 n) ∧ Kept b v.ownBlock w w' ∧ Moved w v v' := by
  have hc := hid (wnum1_any b v lim l er n w h h0 h1 hl hi)
  clear h
  go_enter Try.func49, Try.ntmps49
  go_wp2_with fail
  refine hc.out.mono ?_
  rintro e w1 ⟨rfl, hr⟩
  have HR := hid hr
  clear hr
  go_wp2
  go_end0
  exact ⟨rfl, HR.out⟩

theorem wbyte_nil (n : Int) (w : World) : Calls Try.prog 49 #[.pointer none, .int .i64 n] w fun e w' => e = .returned (.tuple #[]) ∧ w' = w := by
  go_enter Try.func49, Try.ntmps49
  go_wp2_with (go_at_call 63; refine (wnum1_nil _ _).mono ?_; rintro e w1 ⟨rfl, rfl⟩)
  go_end0
  exact ⟨rfl, rfl⟩

set_option maxHeartbeats 400000 in
theorem wword_any (b : Nat) (v : Value) (lim : Int) (l : List UInt8) (er : Int) (n : Int) (w : World) (h : WrAt w b v lim l er)
    (h0 : 0 ≤ lim) (h1 : lim ≤ 9223372036854775807) (hl : l.length + 8 ≤ 140737488355328) (hi : n ≤ 9223372036854775807) :
    Calls Try.prog 50 #[.pointer (some ⟨b, 0, none⟩), .int .i64 n] w fun e w' => e = .returned (.tuple #[]) ∧ ∃ v', WrAt w' b v' lim (wL lim l er 2 n) (wE lim l er 2 n) ∧ Kept b v.ownBlock w w' ∧ Moved w v v' := by
  have hc := hid (wnum2_any b v lim l er n w h h0 h1 hl hi)
  clear h
  go_enter Try.func50, Try.ntmps50
  go_wp2_with fail
  refine hc.out.mono ?_
  rintro e w1 ⟨rfl, hr⟩
  have HR := hid hr
  clear hr
  go_wp2
  go_end0
  exact ⟨rfl, HR.out⟩

theorem wword_nil (n : Int) (w : World) : Calls Try.prog 50 #[.pointer none, .int .i64 n] w fun e w' => e = .returned (.tuple #[]) ∧ w' = w := by
  go_enter Try.func50, Try.ntmps50
  go_wp2_with (go_at_call 63; refine (wnum2_nil _ _).mono ?_; rintro e w1 ⟨rfl, rfl⟩)
  go_end0
  exact ⟨rfl, rfl⟩

end Go.Proofs.Ytpholamobedkhaa

/- The document's writer (layer 1's reference): a number as bytes. -/
namespace Go.Proofs.Ytpholamobedkhaa
open Go.RowKit

theorem made_zero (n : Nat) : madeCells #[Value.int .u8 0] n = (List.replicate n (Value.int .u8 0)).toArray := by
  apply Array.ext'
  simp [madeCells]
  apply List.ext_getElem?
  intro i
  by_cases h : i < n
  · simp [h, Nat.mod_one]
  · simp [h]

/-- The cells of a number that is being written from its end. -/
def bigCells (k : Nat) (T : List UInt8) : Array Value := (List.replicate k (Value.int .u8 0) ++ bC T).toArray
theorem bigCells_set (j : Nat) (T : List UInt8) (c : UInt8) : (bigCells (j + 1) T).setIfInBounds j (.int .u8 (c.toNat : Int)) = bigCells j (c :: T) := by
  apply Array.ext'
  simp only [bigCells, Array.toList_setIfInBounds]
  rw [List.replicate_succ', List.append_assoc, List.set_append_right _ _ (by simp)]
  simp [bC]

set_option maxRecDepth 100000 in
set_option maxHeartbeats 1600000 in
theorem big_any (n s : Nat) (w : World) (hs : s ≤ 8) (hn : n < 18446744073709551616) :
    Calls Try.prog 61 #[.int .u64 n, .int .i64 s] w fun e w' => e = .returned (.slice (some ⟨w.heap.size, 0, none⟩) s s) ∧ w'.heap[w.heap.size]? = some (.cells (bC (be s n)).toArray 5 (0, 0)) ∧ Below w.heap.size w w' := by
  obtain ⟨i0, hi0, hz0, hz1, hz2⟩ := info_parts Try.info5
  have hmk : ∀ u : World, (Instr.makeSlice 89 (.int .i64 (s : Int)) (.int .i64 (s : Int))).run Try.prog u = .ok (.slice (some ⟨u.heap.size, 0, none⟩) s s) (u.alloc (.cells (bigCells s []) 5)) := fun u => by
    have h := run_make (P := Try.prog) u 89 5 i0 (.int .u8 0) Try.underlying89 hi0 hz0 .i64 .i64 (s : Int) (s : Int) (by omega) (Int.le_refl _) (by rw [hz2]; omega) (by omega)
    rw [hz1] at h
    simp only [Int.toNat_natCast, Nat.mul_one] at h
    rw [h]
    simp [Value.cells, made_zero, bigCells, bC]
  clear hi0 hz0 hz1 hz2
  have HN := hid hn
  clear hn
  go_enter Try.func61, Try.ntmps61
  go_wp2
  go_loopw [0, 6] (fun v i wr => ∃ (k m : Nat) (T : List UInt8), k ≤ s ∧ i = .int .i64 ((k : Int) - 1) ∧ v = .int .u64 (m : Int) ∧ m < 18446744073709551616 ∧ be k m ++ T = be s n ∧ wr.heap[w.heap.size]? = some (.cells (bigCells k T) 5 (0, 0)) ∧ Below w.heap.size w wr)
    (fun _ i _ => (intOf i + 1).toNat)
  case atStart => exact ⟨s, n, [], Nat.le_refl _, rfl, rfl, HN.out, by simp, heap_alloc_new w _, (Below.refl _ _).alloc (Nat.le_refl _) _⟩
  case round =>
    obtain ⟨k, m, T, hk, rfl, rfl, hm, hT, hblk, hbel⟩ := hrel
    have HT := hid hT
    have HR := hid (And.intro hblk hbel)
    clear hT hblk hbel
    cases k with
    | zero =>
      go_wp2
      go_ret
      refine ⟨rfl, ?_, HR.out.2⟩
      have e : T = be s n := by simpa [be] using HT.out
      rw [← e]
      simpa [bigCells] using HR.out.1
    | succ j =>
      have ej : (((j + 1 : Nat) : Int) - 1) = (j : Int) := by omega
      rw [ej]
      clear ej
      have hj0 : (0 : Int) ≤ (j : Int) := Int.natCast_nonneg _
      have hjs : (j : Int) < (s : Int) := by omega
      have hm0 : (0 : Int) ≤ (m : Int) := Int.natCast_nonneg _
      have cG : wr.cell? ⟨w.heap.size, j, none⟩ = some (.int .u8 0) := by
        have := cell_of_blk HR.out.1 j (by simp [bigCells]; omega)
        rw [this]
        simp [bigCells]
      have fG := free_of_blk HR.out.1 j
      go_wp2
      go_roundw
      case rel =>
        have hmod : (m : Int) % 256 = ((UInt8.ofNat m).toNat : Int) := by
          have e : (UInt8.ofNat m).toNat = m % 256 := by simp
          rw [e]; omega
        refine ⟨j, m / 256, UInt8.ofNat m :: T, by omega, rfl, ?_, by omega, ?_, ?_, ?_⟩
        · have e : (m : Int) / 256 = ((m / 256 : Nat) : Int) := by omega
          rw [e]
        · have := HT.out
          rw [be_snoc, List.append_assoc] at this
          exact this
        · have := HR.out.1
          simp [World.setCell, Array.getElem?_modify, this]
          rw [hmod, bigCells_set]
        · exact HR.out.2.setCell (Nat.le_refl _) _
      case measure => simp [intOf]

end Go.Proofs.Ytpholamobedkhaa

/- The contracts of the document's writer (layer 1's reference). -/
namespace Go.Proofs.Ytpholamobedkhaa
open Go.RowKit

/-- The document's writer at block c. -/
structure MwAt (w : World) (c : Nat) (v : Value) (lim : Int) (l : List UInt8) (er : Int) : Prop where
  blk : w.heap[c]? = some (.cells #[v, .int .i64 lim, .int .i64 er] 91 (0, 0))
  own : w.ownsRow (c + 1) 5 1 v l.length (bC l)

section
variable {w : World} {c : Nat} {v : Value} {lim : Int} {l : List UInt8} {er : Int}
theorem MwAt.lt (h : MwAt w c v lim l er) : c < w.heap.size := lt_of_blk h.blk
theorem MwAt.c0 (h : MwAt w c v lim l er) : w.cell? ⟨c, 0, none⟩ = some v := cell_of_blk h.blk 0 (by simp)
theorem MwAt.c1 (h : MwAt w c v lim l er) : w.cell? ⟨c, 1, none⟩ = some (.int .i64 lim) := cell_of_blk h.blk 1 (by simp)
theorem MwAt.c2 (h : MwAt w c v lim l er) : w.cell? ⟨c, 2, none⟩ = some (.int .i64 er) := cell_of_blk h.blk 2 (by simp)
theorem MwAt.fr (h : MwAt w c v lim l er) (j : Nat) : w.frozen? ⟨c, j, none⟩ = false := free_of_blk h.blk j
theorem MwAt.alloc (h : MwAt w c v lim l er) (o : Obj) : MwAt (w.alloc o) c v lim l er := ⟨(Below.heap_alloc w o c h.lt).trans h.blk, h.own.alloc o⟩
theorem MwAt.drew (h : MwAt w c v lim l er) : MwAt w.drew c v lim l er := ⟨h.blk, ownsRow_of_heap rfl h.own⟩
theorem MwAt.err (h : MwAt w c v lim l er) (u : Int) : MwAt (w.setCell ⟨c, 2, none⟩ (.int .i64 u)) c v lim l u :=
  ⟨by have := h.blk; simp [World.setCell, Array.getElem?_modify, this], ownsRow_setCell_below h.own (by show c < c + 1; omega) _⟩
theorem MwAt.form (h : MwAt w c v lim l er) : ∃ a cap, v = .slice a l.length cap := by
  rcases h.own.2 with ⟨hv, h0⟩ | ⟨g, cap, cur, hv, _⟩
  · exact ⟨none, 0, by rw [hv, h0]⟩
  · exact ⟨_, _, hv⟩
/-- Below the writer and its row nothing else has turned. -/
theorem MwAt.above {w' : World} (h : MwAt w c v lim l er) (hb : Below w.heap.size w w') : MwAt w' c v lim l er := by
  refine ⟨by rw [hb.block c h.lt]; exact h.blk, h.own.1, ?_⟩
  rcases h.own.2 with h2 | ⟨g, cap, cur, hv, hg, hh, r⟩
  · exact .inl h2
  · exact .inr ⟨g, cap, cur, hv, hg, by rw [hb.block g (lt_of_blk hh)]; exact hh, r⟩
end

theorem mnew_any (n : Int) (w : World) :
    Calls Try.prog 44 #[.int .i64 n] w fun e w' => e = .returned (.pointer (some ⟨w.heap.size, 0, none⟩)) ∧ w' = w.alloc (.cells #[.slice none 0 0, .int .i64 (max n 0), .int .i64 0] 91) := by
  by_cases hn : n < 0
  · have e : max n 0 = 0 := by omega
    rw [e]
    clear e
    go_enter Try.func44, Try.ntmps44
    go_wp2
    go_ret
    exact ⟨rfl, rfl⟩
  · have e : max n 0 = n := by omega
    rw [e]
    clear e
    go_enter Try.func44, Try.ntmps44
    go_wp2
    go_ret
    exact ⟨rfl, rfl⟩

theorem mdone_ok (c : Nat) (v : Value) (lim : Int) (l : List UInt8) (w : World) (h : MwAt w c v lim l 0) :
    Calls Try.prog 46 #[.pointer (some ⟨c, 0, none⟩)] w fun e w' => e = .returned (.tuple #[.string ⟨l.toArray⟩, .int .i64 0]) ∧ w' = w := by
  have c0 := h.c0
  have c2 := h.c2
  rcases h.own.2 with ⟨rfl, h0⟩ | ⟨g, cap, cur, rfl, hg, hh, hnc, hcp, hcs, htake⟩
  · obtain rfl := List.eq_nil_of_length_eq_zero h0
    have hcv : ∀ w, (convert 89 9 (.slice none 0 0)).run Try.prog w = .ok (.string ⟨#[]⟩) w := fun w => by
      rw [run_convert_bytes_string w 89 9 5 none 0 0 Try.underlying89 Try.underlying5 Try.underlying9]; rfl
    clear h
    go_enter Try.func46, Try.ntmps46
    go_wp2
    go_ret2
    exact ⟨rfl, rfl⟩
  · have hcv := run_convert_bytes_back (P := Try.prog) w 89 9 5 ⟨g, 0, none⟩ cap l Try.underlying89 Try.underlying5 Try.underlying9 (fun j hj => h.own.cells (g := g) rfl j _ (by simp [bC, hj]))
    clear h
    go_enter Try.func46, Try.ntmps46
    go_wp2
    go_ret2
    exact ⟨rfl, rfl⟩

theorem mdone_err (c : Nat) (v : Value) (lim : Int) (l : List UInt8) (er : Int) (w : World) (h : MwAt w c v lim l er) (he : (er != 0) = true) :
    Calls Try.prog 46 #[.pointer (some ⟨c, 0, none⟩)] w fun e w' => e = .returned (.tuple #[.string ⟨#[]⟩, .int .i64 er]) ∧ w' = w.drew := by
  have c2 := h.c2
  clear h
  go_enter Try.func46, Try.ntmps46
  go_wp2
  go_region
  all_goals (try go_wp2)
  all_goals go_ret2
  exact ⟨rfl, rfl⟩

set_option maxHeartbeats 800000 in
theorem mput_bad (c : Nat) (v : Value) (lim : Int) (l : List UInt8) (er : Int) (size : Int) (w : World) (h : MwAt w c v lim l er) :
    Calls Try.prog 60 #[.pointer (some ⟨c, 0, none⟩), .slice none 0 0, .bool false] w fun e w' => e = .returned (.tuple #[]) ∧ MwAt w' c v lim l (adm lim l.length er false size) ∧ Kept c none w w' := by
  have c2 := h.c2
  have f2 := h.fr 2
  have HH := hid h
  clear h
  by_cases he : er = 0
  · subst he
    rw [adm_bad]
    go_enter Try.func60, Try.ntmps60
    go_wp2
    first | go_end0 | refine bodyPost_ret (results_none rfl _ _ _) rfl ?_
    exact ⟨rfl, HH.out.err 4, (Kept.refl _ _ _).setCell _ _⟩
  · have hne : (er != 0) = true := by simpa using he
    rw [adm_er _ _ _ _ _ he]
    clear he
    go_enter Try.func60, Try.ntmps60
    go_wp2
    first | go_end0 | refine bodyPost_ret (results_none rfl _ _ _) rfl ?_
    exact ⟨rfl, HH.out, Kept.refl _ _ _⟩

set_option maxHeartbeats 800000 in
theorem mput_er (c : Nat) (v : Value) (lim : Int) (l : List UInt8) (er : Int) (x : Value) (w : World) (h : MwAt w c v lim l er) (he : (er != 0) = true) :
    Calls Try.prog 60 #[.pointer (some ⟨c, 0, none⟩), x, .bool true] w fun e w' => e = .returned (.tuple #[]) ∧ w' = w := by
  have c2 := h.c2
  clear h
  go_enter Try.func60, Try.ntmps60
  go_wp2
  first | go_end0 | refine bodyPost_ret (results_none rfl _ _ _) rfl ?_
  exact ⟨rfl, rfl⟩

set_option maxHeartbeats 800000 in
theorem mput_long (c : Nat) (a : Option Addr) (n cap : Nat) (lim : Int) (g m cm : Nat) (w : World) (c0 : w.cell? ⟨c, 0, none⟩ = some (.slice a n cap)) (c1 : w.cell? ⟨c, 1, none⟩ = some (.int .i64 lim)) (c2 : w.cell? ⟨c, 2, none⟩ = some (.int .i64 0)) (f2 : w.frozen? ⟨c, 2, none⟩ = false)
    (h0 : 0 ≤ lim) (h1 : lim ≤ 9223372036854775807) (hl : n ≤ 140737488355328) (hs : lim - n < m) :
    Calls Try.prog 60 #[.pointer (some ⟨c, 0, none⟩), .slice (some ⟨g, 0, none⟩) m cm, .bool true] w fun e w' => e = .returned (.tuple #[]) ∧ w' = (w.setCell ⟨c, 2, none⟩ (.int .i64 3)).drew := by
  go_enter Try.func60, Try.ntmps60
  go_wp2
  go_region
  all_goals (try go_wp2)
  all_goals (first | go_end0 | refine bodyPost_ret (results_none rfl _ _ _) rfl ?_)
  exact ⟨rfl, rfl⟩

theorem MwAt.bytes {w : World} {c : Nat} {v : Value} {lim : Int} {er : Int} (h : w.heap[c]? = some (.cells #[v, .int .i64 lim, .int .i64 er] 91 (0, 0))) {v' : Value} {l' : List UInt8} (ho : w.ownsRow (c + 1) 5 1 v' l'.length (bC l')) :
    MwAt (w.setCell ⟨c, 0, none⟩ v') c v' lim l' er :=
  ⟨by simp [World.setCell, Array.getElem?_modify, h], ownsRow_setCell_below ho (by show c < c + 1; omega) _⟩

theorem mput_step {w1 w2 : World} {c : Nat} {v v' : Value} {lim : Int} {L C : List UInt8} {er : Int} (hR : MwAt w1 c v lim L er)
    (hown : w2.ownsRow (c + 1) 5 1 v' (L.length + C.length) (bC L ++ bC C)) (hgrow : w1.grownBy w2 v.ownBlock) (hat : v'.ownBlock = v.ownBlock ∨ v'.ownBlock = some w1.heap.size) :
    MwAt (w2.setCell ⟨c, 0, none⟩ v') c v' lim (L ++ C) er ∧ Kept c v.ownBlock w1 (w2.setCell ⟨c, 0, none⟩ v') ∧ Moved w1 v v' := by
  have hbv : some c ≠ v.ownBlock := fun e => by have := (hR.own.lt c e.symm).1; omega
  have hb1 : w2.heap[c]? = some (.cells #[v, .int .i64 lim, .int .i64 er] 91 (0, 0)) := by
    rw [hgrow.block c hR.lt hbv]
    exact hR.blk
  refine ⟨MwAt.bytes hb1 ?_, ?_, ?_⟩
  · rw [bC_app, List.length_append]; exact hown
  · exact ((Kept.refl c v.ownBlock w1).grown hgrow (.inl rfl)).setCell _ _
  · rcases hat with h | h
    · exact .inl h
    · exact .inr ⟨_, h, Nat.le_refl _⟩

set_option maxRecDepth 100000 in
set_option maxHeartbeats 1600000 in
theorem mput_ok (c : Nat) (v : Value) (lim : Int) (l : List UInt8) (g cm : Nat) (xs : List UInt8) (w : World) (h : MwAt w c v lim l 0)
    (h0 : 0 ≤ lim) (h1 : lim ≤ 9223372036854775807) (hl : l.length + xs.length ≤ 140737488355328) (hs : (xs.length : Int) ≤ lim - l.length)
    (hsrc : ∀ j u, (bC xs)[j]? = some u → w.cell? ⟨g, j, none⟩ = some u) :
    Calls Try.prog 60 #[.pointer (some ⟨c, 0, none⟩), .slice (some ⟨g, 0, none⟩) xs.length cm, .bool true] w fun e w' => e = .returned (.tuple #[]) ∧ ∃ v', MwAt w' c v' lim (l ++ xs) 0 ∧ Kept c v.ownBlock w w' ∧ Moved w v v' := by
  obtain ⟨i0, hi0, hz0, hz1, hz2⟩ := info_parts Try.info5
  obtain ⟨av, cap, rfl⟩ := h.form
  have c0 := h.c0
  have c1 := h.c1
  have c2 := h.c2
  have f0 := h.fr 0
  have hlt := h.lt
  have ho := h.own
  have HH := hid h
  have HS := hid hsrc
  clear h hsrc
  have hbv : some c ≠ (Value.slice av l.length cap).ownBlock := fun e => by have := (ho.lt c e.symm).1; omega
  go_enter Try.func60, Try.ntmps60
  go_wp2
  go_region
  go_wp2_with (at_builtin; refine wpList_append_own_at _ rfl _ _ 89 rfl (c + 1) 5 i0 (.int .u8 0) 1 1 Try.underlying89 hi0 hz0 hz1 hz2 rfl (by decide) _ l.length (bC l) rfl (ownsRow_of_heap rfl ho) ⟨g, 0, none⟩ xs.length cm (bC xs) rfl (by rw [bC_len, Nat.mul_one]) ?cells ?one (by unfold maxLen; omega) (by omega) (by exact hlt) ?_)
  case cells =>
    intro j u hj
    rw [Addr.add_lit, Nat.zero_add]
    exact HS.out j u hj
  case one =>
    intro u hu
    obtain ⟨_, _, rfl⟩ := List.mem_map.1 hu
    rfl
  · intro v3 w3 hown3 hgrow _ hat
    have HT := hid (mput_step HH.out.drew hown3 hgrow hat)
    have cz : w3.cell? ⟨c, 0, none⟩ = some (.slice av l.length cap) := (hgrow.cell_far ⟨c, 0, none⟩ hlt hbv).trans c0
    have fz : w3.frozen? ⟨c, 0, none⟩ = false := (hgrow.frozen_far ⟨c, 0, none⟩ hlt hbv).trans f0
    obtain ⟨a3, n3, cap3, hv3⟩ : ∃ a3 n3 cap3, v3 = .slice a3 n3 cap3 := by
      rcases hown3.2 with ⟨hv, _⟩ | ⟨g, cap, cur, hv, _⟩
      · exact ⟨_, _, _, hv⟩
      · exact ⟨_, _, _, hv⟩
    rw [hv3] at HT ⊢
    clear hown3 hgrow hat ho hv3
    go_wp2
    first | go_end0 | refine bodyPost_ret (results_none rfl _ _ _) rfl ?_
    exact ⟨rfl, _, HT.out.1, ⟨HT.out.2.1.os, HT.out.2.1.tape, HT.out.2.1.output, HT.out.2.1.size, HT.out.2.1.block⟩, HT.out.2.2⟩

theorem mput_any (c : Nat) (v : Value) (lim : Int) (l : List UInt8) (er : Int) (g cm : Nat) (xs : List UInt8) (w : World) (h : MwAt w c v lim l er)
    (h0 : 0 ≤ lim) (h1 : lim ≤ 9223372036854775807) (hl : l.length + xs.length ≤ 140737488355328)
    (hsrc : ∀ j u, (bC xs)[j]? = some u → w.cell? ⟨g, j, none⟩ = some u) :
    Calls Try.prog 60 #[.pointer (some ⟨c, 0, none⟩), .slice (some ⟨g, 0, none⟩) xs.length cm, .bool true] w fun e w' => e = .returned (.tuple #[]) ∧
      ∃ v', MwAt w' c v' lim (if adm lim l.length er true xs.length = 0 then l ++ xs else l) (adm lim l.length er true xs.length) ∧ Kept c v.ownBlock w w' ∧ Moved w v v' := by
  by_cases he : er = 0
  · subst he
    by_cases hs : lim - l.length < xs.length
    · rw [adm_long _ _ _ hs, if_neg (by decide)]
      obtain ⟨a, cap, hv⟩ := h.form
      exact (mput_long c a l.length cap lim g xs.length cm w (hv ▸ h.c0) h.c1 h.c2 (h.fr 2) h0 h1 (by omega) hs).mono fun e w' ⟨e1, e2⟩ => ⟨e1, v, by rw [e2]; exact (h.err 3).drew, by rw [e2]; exact ((Kept.refl _ _ _).setCell _ _).drew, Moved.refl _ _⟩
    · rw [adm_ok _ _ _ hs, if_pos rfl]
      exact mput_ok c v lim l g cm xs w h h0 h1 hl (by omega) hsrc
  · rw [adm_er _ _ _ _ _ he, if_neg he]
    exact (mput_er c v lim l er _ w h (by simpa using he)).mono fun e w' ⟨e1, e2⟩ => ⟨e1, v, by rw [e2]; exact h, by rw [e2]; exact Kept.refl _ _ _, Moved.refl _ _⟩

end Go.Proofs.Ytpholamobedkhaa

/- The contracts of the document's writer: numbers, bits, texts, items. -/
namespace Go.Proofs.Ytpholamobedkhaa
open Go.RowKit

theorem mput_len (c : Nat) (v : Value) (lim : Int) (l : List UInt8) (er : Int) (g cm : Nat) (xs : List UInt8) (m : Nat) (hm : xs.length = m) (w : World) (h : MwAt w c v lim l er)
    (h0 : 0 ≤ lim) (h1 : lim ≤ 9223372036854775807) (hl : l.length + m ≤ 140737488355328)
    (hsrc : ∀ j u, (bC xs)[j]? = some u → w.cell? ⟨g, j, none⟩ = some u) :
    Calls Try.prog 60 #[.pointer (some ⟨c, 0, none⟩), .slice (some ⟨g, 0, none⟩) m cm, .bool true] w fun e w' => e = .returned (.tuple #[]) ∧
      ∃ v', MwAt w' c v' lim (if adm lim l.length er true m = 0 then l ++ xs else l) (adm lim l.length er true m) ∧ Kept c v.ownBlock w w' ∧ Moved w v v' := by
  subst hm
  exact mput_any c v lim l er g cm xs w h h0 h1 hl hsrc

theorem cells_of_row {w : World} {g : Nat} {xs : List UInt8} (h : w.heap[g]? = some (.cells (bC xs).toArray 5 (0, 0))) : ∀ j u, (bC xs)[j]? = some u → w.cell? ⟨g, j, none⟩ = some u := by
  intro j u hj
  have hjl := (List.getElem?_eq_some_iff.1 hj).1
  rw [cell_of_blk h j (by simpa using hjl)]
  rw [← hj]
  simp [hjl]


set_option maxRecDepth 100000 in
set_option maxHeartbeats 1600000 in
theorem mnum_in (c : Nat) (v : Value) (lim : Int) (l : List UInt8) (er : Int) (n s : Nat) (hs : s ≤ 4) (w : World) (h : MwAt w c v lim l er)
    (h0 : 0 ≤ lim) (h1 : lim ≤ 9223372036854775807) (hl : l.length + 8 ≤ 140737488355328) (hn : n < 256 ^ s) :
    Calls Try.prog 45 #[.pointer (some ⟨c, 0, none⟩), .int .i64 n, .int .i64 s] w fun e w' => e = .returned (.tuple #[]) ∧ ∃ v', MwAt w' c v' lim (wL lim l er s n) (wE lim l er s n) ∧ Kept c v.ownBlock w w' ∧ Moved w v v' := by
  have hp : 256 ^ s ≤ 4294967296 := Nat.le_trans (Nat.pow_le_pow_right (by decide) hs) (by decide)
  have HH := hid h
  have HC := hid (big_any n s w (by omega) (by omega))
  have hr : inR s (n : Int) = true := by unfold inR; rw [decide_eq_true_iff]; exact ⟨Int.natCast_nonneg _, by exact_mod_cast hn⟩
  have HQ : Hid (∀ E L, (if adm lim l.length er true s = 0 then l ++ be s n else l) = L → adm lim l.length er true s = E → wL lim l er s n = L ∧ wE lim l er s n = E) := by
    intro E L e1 e2
    unfold wL wE
    rw [hr, Int.toNat_natCast]
    exact ⟨e1, e2⟩
  obtain ⟨L, hL⟩ : ∃ L, wL lim l er s n = L := ⟨_, rfl⟩
  obtain ⟨E, hE⟩ : ∃ E, wE lim l er s n = E := ⟨_, rfl⟩
  rw [hL, hE]
  have HLE := hid (And.intro hL hE)
  obtain ⟨q, hq⟩ : ∃ q, q = 256 ^ s := ⟨_, rfl⟩
  rw [← hq] at hn hp
  have HPQ := hid hq
  have hn0 : (0 : Int) ≤ (n : Int) := Int.natCast_nonneg _
  have hnq : (n : Int) < (q : Int) := by omega
  clear h hr hn hL hE hq
  go_enter Try.func45, Try.ntmps45
  go_wp2
  go_loop [6, 7] (fun p i => ∃ k : Nat, k ≤ s ∧ i = .int .i64 k ∧ p = .int .i64 ((256 ^ k : Nat) : Int)) (fun _ i => s - (intOf i).toNat)
  case atStart => exact ⟨0, Nat.zero_le _, rfl, rfl⟩
  case round =>
    obtain ⟨k, hk, rfl, rfl⟩ := hrel
    by_cases hlt : k < s
    · have hb : 256 ^ k ≤ 16777216 := Nat.le_trans (Nat.pow_le_pow_right (by decide) (show k ≤ 3 by omega)) (by decide)
      obtain ⟨p, hp2⟩ : ∃ p, p = 256 ^ k := ⟨_, rfl⟩
      rw [← hp2] at hb ⊢
      have HP2 := hid hp2
      clear hp2
      go_wp2
      go_round
      case rel => exact ⟨k + 1, by omega, by go_num, by rw [Nat.pow_succ, ← HP2.out]; simp⟩
      case measure => simp [intOf]; omega
    · have hks : k = s := by omega
      subst hks
      rw [← HPQ.out]
      clear hlt
      go_wp2_with fail
      refine HC.out.mono ?_
      rintro e w1 ⟨rfl, hb1, hbel⟩
      have HP := hid (mput_len c v lim l er w.heap.size k (be k n) k (be_len k n) w1 (HH.out.above hbel) h0 h1 (by omega) (cells_of_row hb1))
      have HK := hid (show Kept c v.ownBlock w w1 from ⟨hbel.os, hbel.tape, hbel.output, hbel.size, fun j hj _ _ => hbel.block j hj⟩)
      clear hb1 hbel
      go_wp2_with fail
      refine HP.out.mono ?_
      rintro e w2 ⟨rfl, v2, hx2, hk2, hm2⟩
      have hQ := HQ.out _ _ rfl rfl
      rw [← hQ.1, ← hQ.2, HLE.out.1, HLE.out.2] at hx2
      have H2 := hid (And.intro hx2 (And.intro (HK.out.trans hk2 (.inl rfl)) ((Moved.refl w v).trans hm2 HK.out.size)))
      clear hx2 hk2 hm2 hQ
      go_wp2
      go_end0
      exact ⟨rfl, v2, H2.out⟩

set_option maxRecDepth 100000 in
set_option maxHeartbeats 1600000 in
theorem mnum_out (c : Nat) (v : Value) (lim : Int) (l : List UInt8) (er : Int) (n : Int) (s : Nat) (hs : s ≤ 4) (w : World) (h : MwAt w c v lim l er) (hn : n < 0 ∨ ((256 ^ s : Nat) : Int) ≤ n) (E : Int) (hE : adm lim l.length er false s = E) :
    Calls Try.prog 45 #[.pointer (some ⟨c, 0, none⟩), .int .i64 n, .int .i64 s] w fun e w' => e = .returned (.tuple #[]) ∧ ∃ v', MwAt w' c v' lim l E ∧ Kept c v.ownBlock w w' ∧ Moved w v v' := by
  have hp : 256 ^ s ≤ 4294967296 := Nat.le_trans (Nat.pow_le_pow_right (by decide) hs) (by decide)
  have HC := hid (mput_bad c v lim l er s w h)
  rw [hE] at HC
  obtain ⟨q, hq⟩ : ∃ q, q = 256 ^ s := ⟨_, rfl⟩
  rw [← hq] at hn hp
  have HPQ := hid hq
  clear h hE hq
  rcases hn with hn | hn
  all_goals
    go_enter Try.func45, Try.ntmps45
    go_wp2
    go_loop [6, 7] (fun p i => ∃ k : Nat, k ≤ s ∧ i = .int .i64 k ∧ p = .int .i64 ((256 ^ k : Nat) : Int)) (fun _ i => s - (intOf i).toNat)
    case atStart => exact ⟨0, Nat.zero_le _, rfl, rfl⟩
    case round =>
      obtain ⟨k, hk, rfl, rfl⟩ := hrel
      by_cases hlt : k < s
      · have hb : 256 ^ k ≤ 16777216 := Nat.le_trans (Nat.pow_le_pow_right (by decide) (show k ≤ 3 by omega)) (by decide)
        obtain ⟨p, hp2⟩ : ∃ p, p = 256 ^ k := ⟨_, rfl⟩
        rw [← hp2] at hb ⊢
        have HP2 := hid hp2
        clear hp2
        go_wp2
        go_round
        case rel => exact ⟨k + 1, by omega, by go_num, by rw [Nat.pow_succ, ← HP2.out]; simp⟩
        case measure => simp [intOf]; omega
      · have hks : k = s := by omega
        subst hks
        rw [← HPQ.out]
        clear hlt
        go_wp2_with fail
        refine HC.out.mono ?_
        rintro e w1 ⟨rfl, hx1, hk1⟩
        have H1 := hid (And.intro hx1 (kept_none (r := v.ownBlock) hk1))
        clear hx1 hk1
        go_wp2
        first | go_end0 | refine bodyPost_ret (results_none rfl _ _ _) rfl ?_
        exact ⟨rfl, v, H1.out.1, H1.out.2, Moved.refl _ _⟩

theorem mnum_w (c : Nat) (v : Value) (lim : Int) (l : List UInt8) (er : Int) (n : Int) (s : Nat) (hs : s ≤ 4) (w : World) (h : MwAt w c v lim l er)
    (h0 : 0 ≤ lim) (h1 : lim ≤ 9223372036854775807) (hl : l.length + 8 ≤ 140737488355328) :
    Calls Try.prog 45 #[.pointer (some ⟨c, 0, none⟩), .int .i64 n, .int .i64 s] w fun e w' => e = .returned (.tuple #[]) ∧ ∃ v', MwAt w' c v' lim (wL lim l er s n) (wE lim l er s n) ∧ Kept c v.ownBlock w w' ∧ Moved w v v' := by
  by_cases hn : 0 ≤ n ∧ n < ((256 ^ s : Nat) : Int)
  · obtain ⟨m, rfl⟩ : ∃ m : Nat, n = m := ⟨n.toNat, by omega⟩
    exact mnum_in c v lim l er m s hs w h h0 h1 hl (by exact_mod_cast hn.2)
  · have hr : inR s n = false := by unfold inR; rw [decide_eq_false_iff_not]; exact hn
    have hd : ¬ adm lim l.length er false s = 0 := by unfold adm; split <;> simp_all
    have := mnum_out c v lim l er n s hs w h (by omega) _ rfl
    unfold wL wE
    rw [hr, if_neg hd]
    exact this

end Go.Proofs.Ytpholamobedkhaa
