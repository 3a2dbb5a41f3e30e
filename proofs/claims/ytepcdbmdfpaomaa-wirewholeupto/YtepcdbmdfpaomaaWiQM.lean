/- The program's writer of messages. -/
import Derived.Test.YtepcdbmdfpaomaaWiPM
import Derived.Test.YtepcdbmdfpaomaaWiNzM
namespace Go.Proofs.Ytepcdbmdfpaomaa
open Go.RowKit

structure wMs (m : Ms) : Prop where
  k : 0 ≤ m.k ∧ m.k < 256
  ep : 0 ≤ m.ep ∧ m.ep < 65536
  v : 0 ≤ m.v ∧ m.v < 256
  sl : 0 ≤ m.sl ∧ m.sl < 65536
  rq : m.rq.b < 18446744073709551616
  rs : m.rs.2 < 18446744073709551616
  nx : m.nx.length < 256 ∧ ∀ x, x ∈ m.nx → 0 ≤ x ∧ x < 256
  sg : wSg m.sg
  cg : m.cg.length < 256 ∧ ∀ x, x ∈ m.cg → wCg x
  ln : m.ln.length < 256 ∧ ∀ x, x ∈ m.ln → wLn x
set_option maxRecDepth 100000 in
set_option maxHeartbeats 12800000 in
theorem iwmsg_any {F : Nat → Prop} (c : Nat) (w0 : World) (hc : w0.heap.size ≤ c) (H : List (Nat × Obj)) (m : Ms) (hz : wMs m) (a13 a14 a15 a16 : Option Addr) (c13 c14 c15 c16 : Nat) (hL : MsL F w0 m (.slice a13 m.nx.length c13) (.slice a14 m.sg.length c14) (.slice a15 m.cg.length c15) (.slice a16 m.ln.length c16)) (w : World) (l : List UInt8) (h : Pv c w0 H w l) :
    Calls Try.prog 17 #[.pointer (some ⟨c, 0, none⟩), .agg #[.int .i64 m.k, .int .i64 m.ep, .int .i64 m.v, .int .i64 m.sl, .int .i64 m.rq.c, .int .i64 m.rq.st, .int .i64 m.rq.k, .string m.rq.key, .float .f64 m.rq.b, .int .i64 m.rq.id, .int .i64 m.rs.1, .float .f64 m.rs.2, .string m.tx, .slice a13 m.nx.length c13, .slice a14 m.sg.length c14, .slice a15 m.cg.length c15, .slice a16 m.ln.length c16]] w fun e w' => e = .returned (.tuple #[]) ∧ Pv c w0 H w' (l ++ msL m) := by
  obtain ⟨H1, eH1⟩ : ∃ H1, H1 = (w.heap.size, Obj.cells #[.int .i64 m.k, .int .i64 m.ep, .int .i64 m.v, .int .i64 m.sl, .int .i64 m.rq.c, .int .i64 m.rq.st, .int .i64 m.rq.k, .string m.rq.key, .float .f64 m.rq.b, .int .i64 m.rq.id, .int .i64 m.rs.1, .float .f64 m.rs.2, .string m.tx, .slice a13 m.nx.length c13, .slice a14 m.sg.length c14, .slice a15 m.cg.length c15, .slice a16 m.ln.length c16] 34 (0, 0)) :: H := ⟨_, rfl⟩
  have P1 : Hid (Pv c w0 H1 (w.alloc (.cells #[.int .i64 m.k, .int .i64 m.ep, .int .i64 m.v, .int .i64 m.sl, .int .i64 m.rq.c, .int .i64 m.rq.st, .int .i64 m.rq.k, .string m.rq.key, .float .f64 m.rq.b, .int .i64 m.rq.id, .int .i64 m.rs.1, .float .f64 m.rs.2, .string m.tx, .slice a13 m.nx.length c13, .slice a14 m.sg.length c14, .slice a15 m.cg.length c15, .slice a16 m.ln.length c16] 34)) l) := hid (by rw [eH1]; exact h.push _)
  have HBx : Hid (∀ (u : World) (l : List UInt8), Pv c w0 H1 u l → BxAt u w.heap.size [.int .i64 m.k, .int .i64 m.ep, .int .i64 m.v, .int .i64 m.sl, .int .i64 m.rq.c, .int .i64 m.rq.st, .int .i64 m.rq.k, .string m.rq.key, .float .f64 m.rq.b, .int .i64 m.rq.id, .int .i64 m.rs.1, .float .f64 m.rs.2, .string m.tx, .slice a13 m.nx.length c13, .slice a14 m.sg.length c14, .slice a15 m.cg.length c15, .slice a16 m.ln.length c16] 34) := hid (fun u l hu => by rw [eH1] at hu; exact hu.box)
  have HPop : Hid (∀ (u : World) (l : List UInt8), Pv c w0 H1 u l → Pv c w0 H u l) := hid (fun u l hu => by rw [eH1] at hu; exact hu.pop)
  have HZ := hid hz
  have HL := hid hL
  have HC := hid hc
  have HN : Hid ((0 : Int) ≤ (m.nx.length : Int) ∧ (m.nx.length : Int) < 256 ∧ (0 : Int) ≤ (m.cg.length : Int) ∧ (m.cg.length : Int) < 256 ∧ (0 : Int) ≤ (m.ln.length : Int) ∧ (m.ln.length : Int) < 256) := hid (by have := hz.nx.1; have := hz.cg.1; have := hz.ln.1; omega)
  have hn13 : (m.nx.length : Int) < 256 := HN.out.2.1
  have hn15 : (m.cg.length : Int) < 256 := HN.out.2.2.2.1
  have hn16 : (m.ln.length : Int) < 256 := HN.out.2.2.2.2.2
  clear h hc hz hL eH1
  go_enter Try.func17, Try.ntmps17
  go_wp2_with (first
    | (have := P9; go_at_call 40; refine (pvbyte c w0 _ _ _ _ HN.out.1 HN.out.2.1 P9.out).mono ?_; rintro e w9 ⟨rfl, hx⟩; have P10 := hid hx; clear hx y0 y1 y2 y3 y4 y5 y6 y7 y8 y9 y10 y11 y12 y13 y14 y15 y16; have y0 := (HBx.out _ _ P10.out).cell 0 _ rfl; have y1 := (HBx.out _ _ P10.out).cell 1 _ rfl; have y2 := (HBx.out _ _ P10.out).cell 2 _ rfl; have y3 := (HBx.out _ _ P10.out).cell 3 _ rfl; have y4 := (HBx.out _ _ P10.out).cell 4 _ rfl; have y5 := (HBx.out _ _ P10.out).cell 5 _ rfl; have y6 := (HBx.out _ _ P10.out).cell 6 _ rfl; have y7 := (HBx.out _ _ P10.out).cell 7 _ rfl; have y8 := (HBx.out _ _ P10.out).cell 8 _ rfl; have y9 := (HBx.out _ _ P10.out).cell 9 _ rfl; have y10 := (HBx.out _ _ P10.out).cell 10 _ rfl; have y11 := (HBx.out _ _ P10.out).cell 11 _ rfl; have y12 := (HBx.out _ _ P10.out).cell 12 _ rfl; have y13 := (HBx.out _ _ P10.out).cell 13 _ rfl; have y14 := (HBx.out _ _ P10.out).cell 14 _ rfl; have y15 := (HBx.out _ _ P10.out).cell 15 _ rfl; have y16 := (HBx.out _ _ P10.out).cell 16 _ rfl)
    | (have := P8; go_at_call 43; refine (pvtext c w0 _ _ _ _ P8.out).mono ?_; rintro e w8 ⟨rfl, hx⟩; have P9 := hid hx; clear hx y0 y1 y2 y3 y4 y5 y6 y7 y8 y9 y10 y11 y12 y13 y14 y15 y16; have y0 := (HBx.out _ _ P9.out).cell 0 _ rfl; have y1 := (HBx.out _ _ P9.out).cell 1 _ rfl; have y2 := (HBx.out _ _ P9.out).cell 2 _ rfl; have y3 := (HBx.out _ _ P9.out).cell 3 _ rfl; have y4 := (HBx.out _ _ P9.out).cell 4 _ rfl; have y5 := (HBx.out _ _ P9.out).cell 5 _ rfl; have y6 := (HBx.out _ _ P9.out).cell 6 _ rfl; have y7 := (HBx.out _ _ P9.out).cell 7 _ rfl; have y8 := (HBx.out _ _ P9.out).cell 8 _ rfl; have y9 := (HBx.out _ _ P9.out).cell 9 _ rfl; have y10 := (HBx.out _ _ P9.out).cell 10 _ rfl; have y11 := (HBx.out _ _ P9.out).cell 11 _ rfl; have y12 := (HBx.out _ _ P9.out).cell 12 _ rfl; have y13 := (HBx.out _ _ P9.out).cell 13 _ rfl; have y14 := (HBx.out _ _ P9.out).cell 14 _ rfl; have y15 := (HBx.out _ _ P9.out).cell 15 _ rfl; have y16 := (HBx.out _ _ P9.out).cell 16 _ rfl)
    | (have := P7; go_at_call 43; refine (pvtext c w0 _ _ _ _ P7.out).mono ?_; rintro e w7 ⟨rfl, hx⟩; have P8 := hid hx; clear hx y0 y1 y2 y3 y4 y5 y6 y7 y8 y9 y10 y11 y12 y13 y14 y15 y16; have y0 := (HBx.out _ _ P8.out).cell 0 _ rfl; have y1 := (HBx.out _ _ P8.out).cell 1 _ rfl; have y2 := (HBx.out _ _ P8.out).cell 2 _ rfl; have y3 := (HBx.out _ _ P8.out).cell 3 _ rfl; have y4 := (HBx.out _ _ P8.out).cell 4 _ rfl; have y5 := (HBx.out _ _ P8.out).cell 5 _ rfl; have y6 := (HBx.out _ _ P8.out).cell 6 _ rfl; have y7 := (HBx.out _ _ P8.out).cell 7 _ rfl; have y8 := (HBx.out _ _ P8.out).cell 8 _ rfl; have y9 := (HBx.out _ _ P8.out).cell 9 _ rfl; have y10 := (HBx.out _ _ P8.out).cell 10 _ rfl; have y11 := (HBx.out _ _ P8.out).cell 11 _ rfl; have y12 := (HBx.out _ _ P8.out).cell 12 _ rfl; have y13 := (HBx.out _ _ P8.out).cell 13 _ rfl; have y14 := (HBx.out _ _ P8.out).cell 14 _ rfl; have y15 := (HBx.out _ _ P8.out).cell 15 _ rfl; have y16 := (HBx.out _ _ P8.out).cell 16 _ rfl)
    | (have := P6; go_at_call 42; refine (iwrequest_any c w0 _ m.rq HZ.out.rq _ _ P6.out).mono ?_; rintro e w6 ⟨rfl, hx⟩; have P7 := hid hx; clear hx y0 y1 y2 y3 y4 y5 y6 y7 y8 y9 y10 y11 y12 y13 y14 y15 y16; have y0 := (HBx.out _ _ P7.out).cell 0 _ rfl; have y1 := (HBx.out _ _ P7.out).cell 1 _ rfl; have y2 := (HBx.out _ _ P7.out).cell 2 _ rfl; have y3 := (HBx.out _ _ P7.out).cell 3 _ rfl; have y4 := (HBx.out _ _ P7.out).cell 4 _ rfl; have y5 := (HBx.out _ _ P7.out).cell 5 _ rfl; have y6 := (HBx.out _ _ P7.out).cell 6 _ rfl; have y7 := (HBx.out _ _ P7.out).cell 7 _ rfl; have y8 := (HBx.out _ _ P7.out).cell 8 _ rfl; have y9 := (HBx.out _ _ P7.out).cell 9 _ rfl; have y10 := (HBx.out _ _ P7.out).cell 10 _ rfl; have y11 := (HBx.out _ _ P7.out).cell 11 _ rfl; have y12 := (HBx.out _ _ P7.out).cell 12 _ rfl; have y13 := (HBx.out _ _ P7.out).cell 13 _ rfl; have y14 := (HBx.out _ _ P7.out).cell 14 _ rfl; have y15 := (HBx.out _ _ P7.out).cell 15 _ rfl; have y16 := (HBx.out _ _ P7.out).cell 16 _ rfl)
    | (have := P5; go_at_call 41; refine (pvword c w0 _ _ _ _ HZ.out.sl.1 HZ.out.sl.2 P5.out).mono ?_; rintro e w5 ⟨rfl, hx⟩; have P6 := hid hx; clear hx y0 y1 y2 y3 y4 y5 y6 y7 y8 y9 y10 y11 y12 y13 y14 y15 y16; have y0 := (HBx.out _ _ P6.out).cell 0 _ rfl; have y1 := (HBx.out _ _ P6.out).cell 1 _ rfl; have y2 := (HBx.out _ _ P6.out).cell 2 _ rfl; have y3 := (HBx.out _ _ P6.out).cell 3 _ rfl; have y4 := (HBx.out _ _ P6.out).cell 4 _ rfl; have y5 := (HBx.out _ _ P6.out).cell 5 _ rfl; have y6 := (HBx.out _ _ P6.out).cell 6 _ rfl; have y7 := (HBx.out _ _ P6.out).cell 7 _ rfl; have y8 := (HBx.out _ _ P6.out).cell 8 _ rfl; have y9 := (HBx.out _ _ P6.out).cell 9 _ rfl; have y10 := (HBx.out _ _ P6.out).cell 10 _ rfl; have y11 := (HBx.out _ _ P6.out).cell 11 _ rfl; have y12 := (HBx.out _ _ P6.out).cell 12 _ rfl; have y13 := (HBx.out _ _ P6.out).cell 13 _ rfl; have y14 := (HBx.out _ _ P6.out).cell 14 _ rfl; have y15 := (HBx.out _ _ P6.out).cell 15 _ rfl; have y16 := (HBx.out _ _ P6.out).cell 16 _ rfl)
    | (have := P4; go_at_call 40; refine (pvbyte c w0 _ _ _ _ HZ.out.v.1 HZ.out.v.2 P4.out).mono ?_; rintro e w4 ⟨rfl, hx⟩; have P5 := hid hx; clear hx y0 y1 y2 y3 y4 y5 y6 y7 y8 y9 y10 y11 y12 y13 y14 y15 y16; have y0 := (HBx.out _ _ P5.out).cell 0 _ rfl; have y1 := (HBx.out _ _ P5.out).cell 1 _ rfl; have y2 := (HBx.out _ _ P5.out).cell 2 _ rfl; have y3 := (HBx.out _ _ P5.out).cell 3 _ rfl; have y4 := (HBx.out _ _ P5.out).cell 4 _ rfl; have y5 := (HBx.out _ _ P5.out).cell 5 _ rfl; have y6 := (HBx.out _ _ P5.out).cell 6 _ rfl; have y7 := (HBx.out _ _ P5.out).cell 7 _ rfl; have y8 := (HBx.out _ _ P5.out).cell 8 _ rfl; have y9 := (HBx.out _ _ P5.out).cell 9 _ rfl; have y10 := (HBx.out _ _ P5.out).cell 10 _ rfl; have y11 := (HBx.out _ _ P5.out).cell 11 _ rfl; have y12 := (HBx.out _ _ P5.out).cell 12 _ rfl; have y13 := (HBx.out _ _ P5.out).cell 13 _ rfl; have y14 := (HBx.out _ _ P5.out).cell 14 _ rfl; have y15 := (HBx.out _ _ P5.out).cell 15 _ rfl; have y16 := (HBx.out _ _ P5.out).cell 16 _ rfl)
    | (have := P3; go_at_call 41; refine (pvword c w0 _ _ _ _ HZ.out.ep.1 HZ.out.ep.2 P3.out).mono ?_; rintro e w3 ⟨rfl, hx⟩; have P4 := hid hx; clear hx y0 y1 y2 y3 y4 y5 y6 y7 y8 y9 y10 y11 y12 y13 y14 y15 y16; have y0 := (HBx.out _ _ P4.out).cell 0 _ rfl; have y1 := (HBx.out _ _ P4.out).cell 1 _ rfl; have y2 := (HBx.out _ _ P4.out).cell 2 _ rfl; have y3 := (HBx.out _ _ P4.out).cell 3 _ rfl; have y4 := (HBx.out _ _ P4.out).cell 4 _ rfl; have y5 := (HBx.out _ _ P4.out).cell 5 _ rfl; have y6 := (HBx.out _ _ P4.out).cell 6 _ rfl; have y7 := (HBx.out _ _ P4.out).cell 7 _ rfl; have y8 := (HBx.out _ _ P4.out).cell 8 _ rfl; have y9 := (HBx.out _ _ P4.out).cell 9 _ rfl; have y10 := (HBx.out _ _ P4.out).cell 10 _ rfl; have y11 := (HBx.out _ _ P4.out).cell 11 _ rfl; have y12 := (HBx.out _ _ P4.out).cell 12 _ rfl; have y13 := (HBx.out _ _ P4.out).cell 13 _ rfl; have y14 := (HBx.out _ _ P4.out).cell 14 _ rfl; have y15 := (HBx.out _ _ P4.out).cell 15 _ rfl; have y16 := (HBx.out _ _ P4.out).cell 16 _ rfl)
    | (have := P2; go_at_call 40; refine (pvbyte c w0 _ _ _ _ HZ.out.k.1 HZ.out.k.2 P2.out).mono ?_; rintro e w2 ⟨rfl, hx⟩; have P3 := hid hx; clear hx y0 y1 y2 y3 y4 y5 y6 y7 y8 y9 y10 y11 y12 y13 y14 y15 y16; have y0 := (HBx.out _ _ P3.out).cell 0 _ rfl; have y1 := (HBx.out _ _ P3.out).cell 1 _ rfl; have y2 := (HBx.out _ _ P3.out).cell 2 _ rfl; have y3 := (HBx.out _ _ P3.out).cell 3 _ rfl; have y4 := (HBx.out _ _ P3.out).cell 4 _ rfl; have y5 := (HBx.out _ _ P3.out).cell 5 _ rfl; have y6 := (HBx.out _ _ P3.out).cell 6 _ rfl; have y7 := (HBx.out _ _ P3.out).cell 7 _ rfl; have y8 := (HBx.out _ _ P3.out).cell 8 _ rfl; have y9 := (HBx.out _ _ P3.out).cell 9 _ rfl; have y10 := (HBx.out _ _ P3.out).cell 10 _ rfl; have y11 := (HBx.out _ _ P3.out).cell 11 _ rfl; have y12 := (HBx.out _ _ P3.out).cell 12 _ rfl; have y13 := (HBx.out _ _ P3.out).cell 13 _ rfl; have y14 := (HBx.out _ _ P3.out).cell 14 _ rfl; have y15 := (HBx.out _ _ P3.out).cell 15 _ rfl; have y16 := (HBx.out _ _ P3.out).cell 16 _ rfl)
    | (go_at_call 39; refine (dresultText_any _ _ HZ.out.rs _).mono ?_; rintro e w1 ⟨rfl, hx⟩; have P2 := hid (P1.out.under hx); clear hx; have y0 := (HBx.out _ _ P2.out).cell 0 _ rfl; have y1 := (HBx.out _ _ P2.out).cell 1 _ rfl; have y2 := (HBx.out _ _ P2.out).cell 2 _ rfl; have y3 := (HBx.out _ _ P2.out).cell 3 _ rfl; have y4 := (HBx.out _ _ P2.out).cell 4 _ rfl; have y5 := (HBx.out _ _ P2.out).cell 5 _ rfl; have y6 := (HBx.out _ _ P2.out).cell 6 _ rfl; have y7 := (HBx.out _ _ P2.out).cell 7 _ rfl; have y8 := (HBx.out _ _ P2.out).cell 8 _ rfl; have y9 := (HBx.out _ _ P2.out).cell 9 _ rfl; have y10 := (HBx.out _ _ P2.out).cell 10 _ rfl; have y11 := (HBx.out _ _ P2.out).cell 11 _ rfl; have y12 := (HBx.out _ _ P2.out).cell 12 _ rfl; have y13 := (HBx.out _ _ P2.out).cell 13 _ rfl; have y14 := (HBx.out _ _ P2.out).cell 14 _ rfl; have y15 := (HBx.out _ _ P2.out).cell 15 _ rfl; have y16 := (HBx.out _ _ P2.out).cell 16 _ rfl))
  clear y0 y1 y2 y3 y4 y5 y6 y7 y8 y9 y10 y11 y12 y13 y14 y15 y16
  clear P1 P2 P3 P4 P5 P6 P7 P8 P9
  go_loopw [53] (fun i wr => ∃ j : Nat, j ≤ m.nx.length ∧ i = .int .i64 (j : Int) ∧ Pv c w0 H1 wr (l ++ be 1 m.k.toNat ++ be 2 m.ep.toNat ++ be 1 m.v.toNat ++ be 2 m.sl.toNat ++ rqX m.rq ++ txL (rsT m.rs.1 m.rs.2) ++ txL m.tx ++ be 1 m.nx.length ++ (m.nx.take j).flatMap oneL))
    (fun i _ => ((m.nx.length : Int) - intOf i).toNat)
  case atStart => exact ⟨0, Nat.zero_le _, rfl, by have := P10.out; simpa using this⟩
  case round =>
    obtain ⟨j, hj, rfl, hpv⟩ := hrel
    have HV := hid hpv
    clear hpv
    have hj0 : (0 : Int) ≤ (j : Int) := Int.natCast_nonneg _
    by_cases hjn : j = m.nx.length
    · have hj1 : ¬ ((j : Int) < (m.nx.length : Int)) := by omega
      have HE : Hid (j = m.nx.length) := hid hjn
      clear hj hjn
      have y0 := (HBx.out _ _ HV.out).cell 0 _ rfl; have y1 := (HBx.out _ _ HV.out).cell 1 _ rfl; have y2 := (HBx.out _ _ HV.out).cell 2 _ rfl; have y3 := (HBx.out _ _ HV.out).cell 3 _ rfl; have y4 := (HBx.out _ _ HV.out).cell 4 _ rfl; have y5 := (HBx.out _ _ HV.out).cell 5 _ rfl; have y6 := (HBx.out _ _ HV.out).cell 6 _ rfl; have y7 := (HBx.out _ _ HV.out).cell 7 _ rfl; have y8 := (HBx.out _ _ HV.out).cell 8 _ rfl; have y9 := (HBx.out _ _ HV.out).cell 9 _ rfl; have y10 := (HBx.out _ _ HV.out).cell 10 _ rfl; have y11 := (HBx.out _ _ HV.out).cell 11 _ rfl; have y12 := (HBx.out _ _ HV.out).cell 12 _ rfl; have y13 := (HBx.out _ _ HV.out).cell 13 _ rfl; have y14 := (HBx.out _ _ HV.out).cell 14 _ rfl; have y15 := (HBx.out _ _ HV.out).cell 15 _ rfl; have y16 := (HBx.out _ _ HV.out).cell 16 _ rfl
      obtain ⟨A1, eA1⟩ : ∃ A1, A1 = l ++ be 1 m.k.toNat ++ be 2 m.ep.toNat ++ be 1 m.v.toNat ++ be 2 m.sl.toNat ++ rqX m.rq ++ txL (rsT m.rs.1 m.rs.2) ++ txL m.tx ++ be 1 m.nx.length ++ m.nx.flatMap oneL := ⟨_, rfl⟩
      have S0 : Hid (Pv c w0 H1 wr A1) := hid (by have := HV.out; rw [HE.out, List.take_length] at this; rw [eA1]; exact this)
      have HA1 := hid eA1
      clear eA1
      go_wp2_with (first
        | (have := S1; go_at_call 40; refine (pvbyte c w0 _ _ _ _ HN.out.2.2.1 HN.out.2.2.2.1 S1.out).mono ?_; rintro e u2 ⟨rfl, hx⟩; have S2 := hid hx; clear hx y0 y1 y2 y3 y4 y5 y6 y7 y8 y9 y10 y11 y12 y13 y14 y15 y16; have y0 := (HBx.out _ _ S2.out).cell 0 _ rfl; have y1 := (HBx.out _ _ S2.out).cell 1 _ rfl; have y2 := (HBx.out _ _ S2.out).cell 2 _ rfl; have y3 := (HBx.out _ _ S2.out).cell 3 _ rfl; have y4 := (HBx.out _ _ S2.out).cell 4 _ rfl; have y5 := (HBx.out _ _ S2.out).cell 5 _ rfl; have y6 := (HBx.out _ _ S2.out).cell 6 _ rfl; have y7 := (HBx.out _ _ S2.out).cell 7 _ rfl; have y8 := (HBx.out _ _ S2.out).cell 8 _ rfl; have y9 := (HBx.out _ _ S2.out).cell 9 _ rfl; have y10 := (HBx.out _ _ S2.out).cell 10 _ rfl; have y11 := (HBx.out _ _ S2.out).cell 11 _ rfl; have y12 := (HBx.out _ _ S2.out).cell 12 _ rfl; have y13 := (HBx.out _ _ S2.out).cell 13 _ rfl; have y14 := (HBx.out _ _ S2.out).cell 14 _ rfl; have y15 := (HBx.out _ _ S2.out).cell 15 _ rfl; have y16 := (HBx.out _ _ S2.out).cell 16 _ rfl)
        | (go_at_call 44; refine (iwsigs_any c w0 HC.out _ a14 _ c14 m.sg rfl HZ.out.sg.1 HZ.out.sg.2 (slice_pairs HL.out.sg) _ _ S0.out).mono ?_; rintro e u1 ⟨rfl, hx⟩; have S1 := hid hx; clear hx y0 y1 y2 y3 y4 y5 y6 y7 y8 y9 y10 y11 y12 y13 y14 y15 y16; have y0 := (HBx.out _ _ S1.out).cell 0 _ rfl; have y1 := (HBx.out _ _ S1.out).cell 1 _ rfl; have y2 := (HBx.out _ _ S1.out).cell 2 _ rfl; have y3 := (HBx.out _ _ S1.out).cell 3 _ rfl; have y4 := (HBx.out _ _ S1.out).cell 4 _ rfl; have y5 := (HBx.out _ _ S1.out).cell 5 _ rfl; have y6 := (HBx.out _ _ S1.out).cell 6 _ rfl; have y7 := (HBx.out _ _ S1.out).cell 7 _ rfl; have y8 := (HBx.out _ _ S1.out).cell 8 _ rfl; have y9 := (HBx.out _ _ S1.out).cell 9 _ rfl; have y10 := (HBx.out _ _ S1.out).cell 10 _ rfl; have y11 := (HBx.out _ _ S1.out).cell 11 _ rfl; have y12 := (HBx.out _ _ S1.out).cell 12 _ rfl; have y13 := (HBx.out _ _ S1.out).cell 13 _ rfl; have y14 := (HBx.out _ _ S1.out).cell 14 _ rfl; have y15 := (HBx.out _ _ S1.out).cell 15 _ rfl; have y16 := (HBx.out _ _ S1.out).cell 16 _ rfl))
      clear y0 y1 y2 y3 y4 y5 y6 y7 y8 y9 y10 y11 y12 y13 y14 y15 y16 hj0 hj1
      clear HV HE S0 S1
      go_loopw [73] (fun i wr => ∃ j : Nat, j ≤ m.cg.length ∧ i = .int .i64 (j : Int) ∧ Pv c w0 H1 wr (A1 ++ sgsL m.sg ++ be 1 m.cg.length ++ (m.cg.take j).flatMap cgL))
        (fun i _ => ((m.cg.length : Int) - intOf i).toNat)
      case atStart => exact ⟨0, Nat.zero_le _, rfl, by have := S2.out; simpa using this⟩
      case round =>
        obtain ⟨j, hj, rfl, hpv⟩ := hrel
        have HV := hid hpv
        clear hpv
        have hj0 : (0 : Int) ≤ (j : Int) := Int.natCast_nonneg _
        by_cases hjn : j = m.cg.length
        · have hj1 : ¬ ((j : Int) < (m.cg.length : Int)) := by omega
          have HE : Hid (j = m.cg.length) := hid hjn
          clear hj hjn
          have y0 := (HBx.out _ _ HV.out).cell 0 _ rfl; have y1 := (HBx.out _ _ HV.out).cell 1 _ rfl; have y2 := (HBx.out _ _ HV.out).cell 2 _ rfl; have y3 := (HBx.out _ _ HV.out).cell 3 _ rfl; have y4 := (HBx.out _ _ HV.out).cell 4 _ rfl; have y5 := (HBx.out _ _ HV.out).cell 5 _ rfl; have y6 := (HBx.out _ _ HV.out).cell 6 _ rfl; have y7 := (HBx.out _ _ HV.out).cell 7 _ rfl; have y8 := (HBx.out _ _ HV.out).cell 8 _ rfl; have y9 := (HBx.out _ _ HV.out).cell 9 _ rfl; have y10 := (HBx.out _ _ HV.out).cell 10 _ rfl; have y11 := (HBx.out _ _ HV.out).cell 11 _ rfl; have y12 := (HBx.out _ _ HV.out).cell 12 _ rfl; have y13 := (HBx.out _ _ HV.out).cell 13 _ rfl; have y14 := (HBx.out _ _ HV.out).cell 14 _ rfl; have y15 := (HBx.out _ _ HV.out).cell 15 _ rfl; have y16 := (HBx.out _ _ HV.out).cell 16 _ rfl
          obtain ⟨A2, eA2⟩ : ∃ A2, A2 = A1 ++ sgsL m.sg ++ be 1 m.cg.length ++ m.cg.flatMap cgL := ⟨_, rfl⟩
          have R0 : Hid (Pv c w0 H1 wr A2) := hid (by have := HV.out; rw [HE.out, List.take_length] at this; rw [eA2]; exact this)
          have HA2 := hid eA2
          clear eA2
          go_wp2_with (go_at_call 40; refine (pvbyte c w0 _ _ _ _ HN.out.2.2.2.2.1 HN.out.2.2.2.2.2 R0.out).mono ?_; rintro e u1 ⟨rfl, hx⟩; have R1 := hid hx; clear hx y0 y1 y2 y3 y4 y5 y6 y7 y8 y9 y10 y11 y12 y13 y14 y15 y16; have y0 := (HBx.out _ _ R1.out).cell 0 _ rfl; have y1 := (HBx.out _ _ R1.out).cell 1 _ rfl; have y2 := (HBx.out _ _ R1.out).cell 2 _ rfl; have y3 := (HBx.out _ _ R1.out).cell 3 _ rfl; have y4 := (HBx.out _ _ R1.out).cell 4 _ rfl; have y5 := (HBx.out _ _ R1.out).cell 5 _ rfl; have y6 := (HBx.out _ _ R1.out).cell 6 _ rfl; have y7 := (HBx.out _ _ R1.out).cell 7 _ rfl; have y8 := (HBx.out _ _ R1.out).cell 8 _ rfl; have y9 := (HBx.out _ _ R1.out).cell 9 _ rfl; have y10 := (HBx.out _ _ R1.out).cell 10 _ rfl; have y11 := (HBx.out _ _ R1.out).cell 11 _ rfl; have y12 := (HBx.out _ _ R1.out).cell 12 _ rfl; have y13 := (HBx.out _ _ R1.out).cell 13 _ rfl; have y14 := (HBx.out _ _ R1.out).cell 14 _ rfl; have y15 := (HBx.out _ _ R1.out).cell 15 _ rfl; have y16 := (HBx.out _ _ R1.out).cell 16 _ rfl)
          clear y0 y1 y2 y3 y4 y5 y6 y7 y8 y9 y10 y11 y12 y13 y14 y15 y16 hj0 hj1
          clear HV HE R0
          go_loopw [89] (fun i wr => ∃ j : Nat, j ≤ m.ln.length ∧ i = .int .i64 (j : Int) ∧ Pv c w0 H1 wr (A2 ++ be 1 m.ln.length ++ (m.ln.take j).flatMap lnL))
            (fun i _ => ((m.ln.length : Int) - intOf i).toNat)
          case atStart => exact ⟨0, Nat.zero_le _, rfl, by have := R1.out; simpa using this⟩
          case round =>
            obtain ⟨j, hj, rfl, hpv⟩ := hrel
            have HV := hid hpv
            clear hpv
            have hj0 : (0 : Int) ≤ (j : Int) := Int.natCast_nonneg _
            by_cases hjn : j = m.ln.length
            · have hj1 : ¬ ((j : Int) < (m.ln.length : Int)) := by omega
              have HE : Hid (j = m.ln.length) := hid hjn
              clear hj hjn
              have y0 := (HBx.out _ _ HV.out).cell 0 _ rfl; have y1 := (HBx.out _ _ HV.out).cell 1 _ rfl; have y2 := (HBx.out _ _ HV.out).cell 2 _ rfl; have y3 := (HBx.out _ _ HV.out).cell 3 _ rfl; have y4 := (HBx.out _ _ HV.out).cell 4 _ rfl; have y5 := (HBx.out _ _ HV.out).cell 5 _ rfl; have y6 := (HBx.out _ _ HV.out).cell 6 _ rfl; have y7 := (HBx.out _ _ HV.out).cell 7 _ rfl; have y8 := (HBx.out _ _ HV.out).cell 8 _ rfl; have y9 := (HBx.out _ _ HV.out).cell 9 _ rfl; have y10 := (HBx.out _ _ HV.out).cell 10 _ rfl; have y11 := (HBx.out _ _ HV.out).cell 11 _ rfl; have y12 := (HBx.out _ _ HV.out).cell 12 _ rfl; have y13 := (HBx.out _ _ HV.out).cell 13 _ rfl; have y14 := (HBx.out _ _ HV.out).cell 14 _ rfl; have y15 := (HBx.out _ _ HV.out).cell 15 _ rfl; have y16 := (HBx.out _ _ HV.out).cell 16 _ rfl
              go_wp2
              go_end0
              refine ⟨rfl, ?_⟩
              have := HPop.out _ _ HV.out
              rw [HE.out, List.take_length] at this
              rw [HA2.out, HA1.out] at this
              simp only [msL, lsL, rsX, List.append_assoc] at this ⊢
              exact this
            · have hj1 : (j : Int) < (m.ln.length : Int) := by omega
              have hjl : j < m.ln.length := by omega
              obtain ⟨g, off, cp, a1, k1, a2, k2, hv, hIP, hg, hcl⟩ := ln_at HL.out.ln j hjl
              cases hv
              have hcr : ∀ (q : Nat) (u : Value), (lnC (m.ln.getD j ln0) (.slice a1 (m.ln.getD j ln0).1.2.length k1) (.slice a2 (m.ln.getD j ln0).2.length k2))[q]? = some u → wr.cell? ⟨g, off + j * 3 + q, none⟩ = some u := fun q u hq => (World.cell?_of_block (a := ⟨g, off + j * 3 + q, none⟩) (HV.out.bel.block g (Nat.lt_of_lt_of_le hg HC.out))).trans (hcl q u hq)
              have HJ := hid (And.intro hj hjn)
              have HS := hid (flat_snoc (f := lnL) (d := ln0) j hjl)
              have HBj := hid (HZ.out.ln.2 (m.ln.getD j ln0) (by rw [List.getD_eq_getElem?_getD, List.getElem?_eq_getElem hjl]; exact List.getElem_mem hjl))
              generalize m.ln.getD j ln0 = y at hcr hIP HS HBj
              have HP := hid hIP
              have d0 : wr.cell? ⟨g, off + j * 3, none⟩ = some (.int .i64 y.1.1) := hcr 0 _ rfl
              have d1 : wr.cell? ⟨g, off + j * 3 + 1, none⟩ = some (.slice a1 y.1.2.length k1) := hcr 1 _ rfl
              have d2 : wr.cell? ⟨g, off + j * 3 + 2, none⟩ = some (.slice a2 y.2.length k2) := hcr 2 _ rfl
              clear hj hjn hjl hIP hg hcl hcr
              go_wp2_with (first
                | (have := Q1; go_at_call 46; refine (iwlink_any c w0 HC.out _ y a1 _ k1 a2 _ k2 rfl HBj.out.1 HP.out.1 rfl HBj.out.2.1 HBj.out.2.2 HP.out.2 _ _ Q1.out).mono ?_; rintro e v1 ⟨rfl, h5⟩; have Q5 := hid h5; clear h5)
                | (refine wl_store_blk rfl 63 _ _ rfl wr.heap.size 0 rfl #[.int .i64 y.1.1, .slice a1 y.1.2.length k1, .slice a2 y.2.length k2] rfl [.int .i64 0, .slice none 0 0, .slice none 0 0] 63 (heap_alloc_last wr _) (by simp) (by kernel_rfl) (by simp [Value.oneCell']) ?_; intro wx Hz; have Q1 : Hid (Pv c w0 ((wr.heap.size, .cells #[.int .i64 y.1.1, .slice a1 y.1.2.length k1, .slice a2 y.2.length k2] 63 (0, 0)) :: H1) wx _) := hid (HV.out.put (Hz.out.2.below ((Below.refl wr.heap.size wr).alloc (Nat.le_refl _) _) (Nat.le_refl _)) Hz.out.1); clear Hz d0 d1 d2; have x0 := (Q1.out.box (L := [.int .i64 y.1.1, .slice a1 y.1.2.length k1, .slice a2 y.2.length k2])).cell 0 _ rfl; have x1 := (Q1.out.box (L := [.int .i64 y.1.1, .slice a1 y.1.2.length k1, .slice a2 y.2.length k2])).cell 1 _ rfl; have x2 := (Q1.out.box (L := [.int .i64 y.1.1, .slice a1 y.1.2.length k1, .slice a2 y.2.length k2])).cell 2 _ rfl))
              go_roundw
              case rel => exact ⟨j + 1, by have := HJ.out; omega, by go_num, by have := Q5.out.pop; rw [← HS.out]; simp only [List.append_assoc] at this ⊢; exact this⟩
              case measure => simp [intOf]; omega

        · have hj1 : (j : Int) < (m.cg.length : Int) := by omega
          have hjl : j < m.cg.length := by omega
          obtain ⟨g, off, cp, a8, n8, k8, hv, hRd, hg, hcl⟩ := cg_at HL.out.cg j hjl
          cases hv
          obtain ⟨_, _, hf⟩ := Reads.form hRd
          have hn8 : (m.cg.getD j cg0).2.2.1.length = n8 := by injection hf with _ h2 _; rw [h2, List.length_map]
          have hcr : ∀ (q : Nat) (u : Value), (cgC (m.cg.getD j cg0) (.slice a8 n8 k8))[q]? = some u → wr.cell? ⟨g, off + j * 5 + q, none⟩ = some u := fun q u hq => (World.cell?_of_block (a := ⟨g, off + j * 5 + q, none⟩) (HV.out.bel.block g (Nat.lt_of_lt_of_le hg HC.out))).trans (hcl q u hq)
          have HJ := hid (And.intro hj hjn)
          have HS := hid (flat_snoc (f := cgL) (d := cg0) j hjl)
          have HBj := hid (HZ.out.cg.2 (m.cg.getD j cg0) (by rw [List.getD_eq_getElem?_getD, List.getElem?_eq_getElem hjl]; exact List.getElem_mem hjl))
          generalize m.cg.getD j cg0 = y at hcr hRd HS HBj hn8
          have HP := hid (And.intro hRd hn8)
          have d0 : wr.cell? ⟨g, off + j * 5, none⟩ = some (.int .i64 y.1) := hcr 0 _ rfl
          have d1 : wr.cell? ⟨g, off + j * 5 + 1, none⟩ = some (.int .i64 y.2.1) := hcr 1 _ rfl
          have d2 : wr.cell? ⟨g, off + j * 5 + 2, none⟩ = some (.slice a8 n8 k8) := hcr 2 _ rfl
          have d3 : wr.cell? ⟨g, off + j * 5 + 3, none⟩ = some (.int .i64 y.2.2.2.1) := hcr 3 _ rfl
          have d4 : wr.cell? ⟨g, off + j * 5 + 4, none⟩ = some (.string y.2.2.2.2) := hcr 4 _ rfl
          clear hj hjn hjl hRd hg hcl hcr hf hn8
          go_wp2_with (first
            | (have := Q1; go_at_call 45; refine (iwchange_any c w0 HC.out _ y a8 n8 k8 HP.out.2 HBj.out HP.out.1 _ _ Q1.out).mono ?_; rintro e v1 ⟨rfl, h5⟩; have Q5 := hid h5; clear h5)
            | (refine wl_store_blk rfl 70 _ _ rfl wr.heap.size 0 rfl #[.int .i64 y.1, .int .i64 y.2.1, .slice a8 n8 k8, .int .i64 y.2.2.2.1, .string y.2.2.2.2] rfl [.int .i64 0, .int .i64 0, .slice none 0 0, .int .i64 0, .string ⟨#[]⟩] 70 (heap_alloc_last wr _) (by simp) (by kernel_rfl) (by simp [Value.oneCell']) ?_; intro wx Hz; have Q1 : Hid (Pv c w0 ((wr.heap.size, .cells #[.int .i64 y.1, .int .i64 y.2.1, .slice a8 n8 k8, .int .i64 y.2.2.2.1, .string y.2.2.2.2] 70 (0, 0)) :: H1) wx _) := hid (HV.out.put (Hz.out.2.below ((Below.refl wr.heap.size wr).alloc (Nat.le_refl _) _) (Nat.le_refl _)) Hz.out.1); clear Hz d0 d1 d2 d3 d4; have x0 := (Q1.out.box (L := [.int .i64 y.1, .int .i64 y.2.1, .slice a8 n8 k8, .int .i64 y.2.2.2.1, .string y.2.2.2.2])).cell 0 _ rfl; have x1 := (Q1.out.box (L := [.int .i64 y.1, .int .i64 y.2.1, .slice a8 n8 k8, .int .i64 y.2.2.2.1, .string y.2.2.2.2])).cell 1 _ rfl; have x2 := (Q1.out.box (L := [.int .i64 y.1, .int .i64 y.2.1, .slice a8 n8 k8, .int .i64 y.2.2.2.1, .string y.2.2.2.2])).cell 2 _ rfl; have x3 := (Q1.out.box (L := [.int .i64 y.1, .int .i64 y.2.1, .slice a8 n8 k8, .int .i64 y.2.2.2.1, .string y.2.2.2.2])).cell 3 _ rfl; have x4 := (Q1.out.box (L := [.int .i64 y.1, .int .i64 y.2.1, .slice a8 n8 k8, .int .i64 y.2.2.2.1, .string y.2.2.2.2])).cell 4 _ rfl))
          go_roundw
          case rel => exact ⟨j + 1, by have := HJ.out; omega, by go_num, by have := Q5.out.pop; rw [← HS.out]; simp only [List.append_assoc] at this ⊢; exact this⟩
          case measure => simp [intOf]; omega

    · have hj1 : (j : Int) < (m.nx.length : Int) := by omega
      have hjl : j < m.nx.length := by omega
      obtain ⟨g, off, rfl, hc1⟩ : ∃ g off, a13 = some ⟨g, off, none⟩ ∧ wr.cell? ⟨g, off + j, none⟩ = some (.int .i64 (m.nx.getD j 0)) := by
        rcases (slice_ints HL.out.nx).keep HV.out.bel HC.out with e | ⟨g, off, ha, hg, hc⟩
        · rw [e] at hjl; simp at hjl
        · exact ⟨g, off, ha, hc j _ (by simp [hjl])⟩
      have HJ := hid (And.intro hj hjn)
      have HS := hid (flat_snoc (f := oneL) (d := (0 : Int)) j hjl)
      have HBj := hid (HZ.out.nx.2 (m.nx.getD j 0) (by rw [List.getD_eq_getElem?_getD, List.getElem?_eq_getElem hjl]; exact List.getElem_mem hjl))
      generalize m.nx.getD j 0 = y at hc1 HS HBj
      clear hj hjn hjl
      go_wp2_with (go_at_call 40; refine (pvbyte c w0 _ _ _ _ HBj.out.1 HBj.out.2 HV.out).mono ?_; rintro e v1 ⟨rfl, h5⟩; have Q5 := hid h5; clear h5)
      go_roundw
      case rel => exact ⟨j + 1, by have := HJ.out; omega, by go_num, by have := Q5.out; rw [← HS.out]; simp only [oneL, List.append_assoc] at this ⊢; exact this⟩
      case measure => simp [intOf]; omega
end Go.Proofs.Ytepcdbmdfpaomaa
