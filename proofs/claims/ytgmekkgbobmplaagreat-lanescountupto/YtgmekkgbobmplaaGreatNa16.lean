/- Texts laid together: WiNb WiR OpP. -/
import Derived.Test.YtgmekkgbobmplaaGreatWiNbAM
import Derived.Test.YtgmekkgbobmplaaGreatWiNbBM
import Derived.Test.YtgmekkgbobmplaaGreatWiNbCM
import Derived.Test.YtgmekkgbobmplaaGreatNa13
import Derived.Test.YtgmekkgbobmplaaGreatWiNdM
import Derived.Test.YtgmekkgbobmplaaGreatNa14
import Derived.Test.YtgmekkgbobmplaaGreatWiNkM
import Derived.Test.YtgmekkgbobmplaaGreatLnMM
import Derived.Test.YtgmekkgbobmplaaGreatNa9
/- The program's test of messages, kind by kind. -/
namespace Go.Proofs.YtgmekkgbobmplaaGreat
open Go.RowKit
theorem ifits_2 {F : Nat → Prop} {w : World} {m : Ms} {a13 a14 a15 a16 : Option Addr} {c13 c14 c15 c16 : Nat} (h : Fx F w m a13 a14 a15 a16 c13 c14 c15 c16) (hk : m.k = 2) : Fit w m a13 a14 a15 a16 c13 c14 c15 c16 (kindB m) := by
  obtain ⟨K, eK⟩ : ∃ K : Nat, K = if nullB m.rq then 0 else 1 := ⟨_, rfl⟩
  have hV : kindB m = ((onlyB m { v := true, s := true, r := true, g := true }) && ((placeB m) && ((askB m.rq) && ((oneB m.sg K))))) := by
    unfold kindB
    rw [if_neg (by rw [hk]; decide)]; rw [if_pos hk]; rw [eK]
  cases t1 : (onlyB m { v := true, s := true, r := true, g := true }) with
  | false =>
   rw [show kindB m = false by rw [hV, t1] <;> rfl]
   exact ifits_2_0 h hk K eK t1
  | true =>
   cases t2 : (placeB m) with
   | false =>
    rw [show kindB m = false by rw [hV, t1, t2] <;> rfl]
    exact ifits_2_1 h hk K eK t1 t2
   | true =>
    cases t3 : (askB m.rq) with
    | false =>
     rw [show kindB m = false by rw [hV, t1, t2, t3] <;> rfl]
     exact ifits_2_2 h hk K eK t1 t2 t3
    | true =>
     cases t4 : (oneB m.sg K) with
     | false =>
      rw [show kindB m = false by rw [hV, t1, t2, t3, t4] <;> rfl]
      exact ifits_2_3 h hk K eK t1 t2 t3 t4
     | true =>
      rw [show kindB m = true by rw [hV, t1, t2, t3, t4] <;> rfl]
      exact ifits_2_4 h hk K eK t1 t2 t3 t4
end Go.Proofs.YtgmekkgbobmplaaGreat

/- The program's bytes of a message. -/
namespace Go.Proofs.YtgmekkgbobmplaaGreat
open Go.RowKit

theorem in_at {z a b : Int} (h : inB z a b = true) : a ≤ z ∧ z ≤ b := by
  rw [inB, Bool.and_eq_true, decide_eq_true_eq, decide_eq_true_eq] at h
  exact h
theorem sigs_w {l : List Sg} (h : sigsB l = true) : wSg l := by
  rw [sigsB, Bool.and_eq_true, decide_eq_true_eq] at h
  refine ⟨by omega, fun p hp => ?_⟩
  obtain ⟨i, hi, e⟩ := getD_mem (d := sg0) hp
  have := allTo_at h.2 i hi
  rw [e] at this
  have := in_at this
  omega
theorem ct_w {e : Int} {c : Ct} (he : inB e 0 60 = true) (h : ctB e c = true) (hb : c.2.2.1.b < 18446744073709551616) : wCt c := by
  simp only [ctB, Bool.and_eq_true] at h
  obtain ⟨⟨h1, h2⟩, h3, h4⟩ := h
  have h1 := in_at h1
  have he := in_at he
  rw [ofB, Bool.and_eq_true, decide_eq_true_eq, decide_eq_true_eq] at h2
  exact ⟨by omega, by omega, hb, sigs_w h4⟩
theorem cg_w {e : Int} {c : Cg} (he : inB e 0 60 = true) (h : cgB e c = true) (hb : ∀ x, x ∈ c.2.2.1 → x.2.2.1.b < 18446744073709551616) : wCg c := by
  simp only [cgB, ctsB, Bool.and_eq_true, decide_eq_true_eq] at h
  obtain ⟨⟨h1, h2⟩, ⟨h3, h4⟩, h5⟩ := h
  have h1 := in_at h1
  have h2 := in_at h2
  have h5 := in_at h5
  refine ⟨by omega, by omega, ⟨by omega, fun x hx => ?_⟩, by omega⟩
  obtain ⟨i, hi, e2⟩ := getD_mem (d := ct0) hx
  have := allTo_at h4 i hi
  rw [ctAt, Bool.and_eq_true, e2] at this
  exact ct_w he this.1 (hb x hx)
theorem fit_w {m : Ms} (h : fitB m = true) (hb : MsB m) : wMs m := by
  rw [fitB, Bool.and_eq_true, Bool.and_eq_true] at h
  obtain ⟨hk, he, hB⟩ := h
  obtain ⟨w1, w2, w3, w4, w5, w6, w7, w8⟩ := fit_weak he hB
  have hk2 := in_at hk
  have he2 := in_at he
  refine ⟨by omega, by omega, ?_, ?_, hb.rq.2.2.2, hb.rf, ?_, ?_, ?_, ?_⟩
  · rcases w1 with e | e
    · omega
    · have := in_at e; omega
  · rcases w2 with e | e
    · omega
    · exact ⟨e.1, by have := e.2; omega⟩
  · rcases w5 with e | e
    · rw [nil_of e]; exact ⟨by decide, fun x hx => by cases hx⟩
    · have := mem_len e
      exact ⟨by omega, fun x hx => by have := mem_in e x hx; omega⟩
  · rcases w6 with e | e
    · rw [nil_of e]; exact ⟨by decide, fun x hx => by cases hx⟩
    · exact sigs_w e
  · rcases w7 with e | ⟨e1, e2⟩
    · rw [nil_of e]; exact ⟨by decide, fun x hx => by cases hx⟩
    · exact ⟨by omega, fun x hx => cg_w he (e2 x hx) (fun y hy => ((hb.cg.2 x hx).2.1.2 y hy).2.1.2.2.2)⟩
  · rcases w8 with e | ⟨e1, e2⟩
    · rw [nil_of e]; exact ⟨by decide, fun x hx => by cases hx⟩
    · refine ⟨by omega, fun x hx => ?_⟩
      obtain ⟨i, hi, e⟩ := getD_mem (d := ln0) hx
      have := allTo_at e2 i hi
      rw [lnAt, e, Bool.and_eq_true, Bool.and_eq_true] at this
      exact ⟨(hb.ln.2 x hx).2.1.1, sigs_w this.2⟩
theorem ifits_any {F : Nat → Prop} (m : Ms) (hB : MsB m) (a13 a14 a15 a16 : Option Addr) (c13 c14 c15 c16 : Nat) (w : World) (hL : MsL F w m (.slice a13 m.nx.length c13) (.slice a14 m.sg.length c14) (.slice a15 m.cg.length c15) (.slice a16 m.ln.length c16)) :
    Calls Tryz.prog 65 #[.agg #[.int .i64 m.k, .int .i64 m.ep, .int .i64 m.v, .int .i64 m.sl, .int .i64 m.rq.c, .int .i64 m.rq.st, .int .i64 m.rq.k, .string m.rq.key, .float .f64 m.rq.b, .int .i64 m.rq.id, .int .i64 m.rs.1, .float .f64 m.rs.2, .string m.tx, .slice a13 m.nx.length c13, .slice a14 m.sg.length c14, .slice a15 m.cg.length c15, .slice a16 m.ln.length c16]] w fun e w' => e = .returned (.bool (fitB m)) ∧ Below w.heap.size w w' := by
  rw [fitB]
  cases he : inB m.ep 0 60 with
  | false =>
    rw [Bool.false_and, Bool.and_false]
    exact ifits_no m he _ _ _ _ w
  | true =>
    cases hk : inB m.k 1 10 with
    | false =>
      rw [Bool.false_and]
      exact ifits_none m he hk _ _ _ _ w
    | true =>
    rw [Bool.true_and, Bool.true_and]
    have h0 := (in_at he).1
    have h1 := (in_at he).2
    have hk := in_at hk
    by_cases e1 : m.k = 1
    · exact ifits_1 ⟨hB, h0, h1, hL⟩ e1
    by_cases e2 : m.k = 2
    · exact ifits_2 ⟨hB, h0, h1, hL⟩ e2
    by_cases e3 : m.k = 3
    · exact ifits_3 ⟨hB, h0, h1, hL⟩ e3
    by_cases e4 : m.k = 4
    · exact ifits_4 ⟨hB, h0, h1, hL⟩ e4
    by_cases e5 : m.k = 5
    · exact ifits_5 ⟨hB, h0, h1, hL⟩ e5
    by_cases e6 : m.k = 6
    · exact ifits_6 ⟨hB, h0, h1, hL⟩ e6
    by_cases e7 : m.k = 7
    · exact ifits_7 ⟨hB, h0, h1, hL⟩ e7
    by_cases e8 : m.k = 8
    · exact ifits_8 ⟨hB, h0, h1, hL⟩ e8
    by_cases e9 : m.k = 9
    · exact ifits_9 ⟨hB, h0, h1, hL⟩ e9
    · exact ifits_10 ⟨hB, h0, h1, hL⟩ (by omega)
end Go.Proofs.YtgmekkgbobmplaaGreat

/- A packet as an argument. No walk here. -/
namespace Go.Proofs.YtgmekkgbobmplaaGreat
open Go.ChangeShapes Go.WideShapes Go.ChangeAt Go.RowKit

def shPkt : Sh := .st (.c .i (.c .i (.c shMsg .u)))
theorem of_pkt : shPkt.Of Tryz.prog (.inl 50) := ⟨_, Tryz.underlying50, by kernel_rfl, ⟨_, _, rfl, rfl, by kernel_rfl, Tryz.underlying3, ⟨_, _, rfl, rfl, by kernel_rfl, Tryz.underlying3, ⟨_, _, rfl, rfl, by kernel_rfl, of_msg, rfl⟩⟩⟩⟩
def pktR (q : Pkt) : Prop := iR q.1 ∧ iR q.2.1 ∧ MsB q.2.2
theorem fit_pkt {S : Prop} {U : Nat} {ds : List Dat} (h : Fits S U shPkt ds) : ∃ q : Pkt, ds = dPk q ∧ pktR q := by
  obtain ⟨d1, r1, rfl, ⟨fr, rfl, h1⟩, d2, r2, rfl, ⟨tg, rfl, h2⟩, d3, r3, rfl, h3, rfl⟩ := h
  obtain ⟨m, rfl, hm⟩ := fit_msg h3
  exact ⟨(fr, tg, m), by simp [dPk], h1, h2, hm⟩
section
variable {H : Type} {enc : TypeId × Value → H} {W : World} {fuel : Nat} {x : DataW H × List MemPlace}
theorem open_pkt {c0 c1 c2 c3 c4 c5 c6 c7 c8 c9 c10 c11 c12 c13 c14 c15 c16 c17 c18 : Value} (h : DataW.trod enc Tryz.prog W 0 (fun _ => true) true fuel 50 [c0, c1, c2, c3, c4, c5, c6, c7, c8, c9, c10, c11, c12, c13, c14, c15, c16, c17, c18] = some x) :
    ∃ (q : Pkt) (a13 : Option Addr) (k13 : Nat) (a14 : Option Addr) (k14 : Nat) (a15 : Option Addr) (k15 : Nat) (a16 : Option Addr) (k16 : Nat), (c0 = .int .i64 q.1 ∧ c1 = .int .i64 q.2.1 ∧ c2 = .int .i64 q.2.2.k ∧ c3 = .int .i64 q.2.2.ep ∧ c4 = .int .i64 q.2.2.v ∧ c5 = .int .i64 q.2.2.sl ∧ c6 = .int .i64 q.2.2.rq.c ∧ c7 = .int .i64 q.2.2.rq.st ∧ c8 = .int .i64 q.2.2.rq.k ∧ c9 = .string q.2.2.rq.key ∧ c10 = .float .f64 q.2.2.rq.b ∧ c11 = .int .i64 q.2.2.rq.id ∧ c12 = .int .i64 q.2.2.rs.1 ∧ c13 = .float .f64 q.2.2.rs.2 ∧ c14 = .string q.2.2.tx ∧ c15 = .slice a13 q.2.2.nx.length k13 ∧ c16 = .slice a14 q.2.2.sg.length k14 ∧ c17 = .slice a15 q.2.2.cg.length k15 ∧ c18 = .slice a16 q.2.2.ln.length k16) ∧ pktR q ∧ MsL (fun _ => True) W q.2.2 (.slice a13 q.2.2.nx.length k13) (.slice a14 q.2.2.sg.length k14) (.slice a15 q.2.2.cg.length k15) (.slice a16 q.2.2.ln.length k16) := by
  obtain ⟨ds, hf, hc⟩ := (opens_all Tryz.prog shPkt).1 _ _ _ _ of_pkt h
  obtain ⟨q, rfl, hB⟩ := fit_pkt hf
  obtain ⟨_, q0, r0, _⟩ := hc 0 _ rfl
  obtain ⟨_, q1, r1, _⟩ := hc 1 _ rfl
  obtain ⟨_, q2, r2, _⟩ := hc 2 _ rfl
  obtain ⟨_, q3, r3, _⟩ := hc 3 _ rfl
  obtain ⟨_, q4, r4, _⟩ := hc 4 _ rfl
  obtain ⟨_, q5, r5, _⟩ := hc 5 _ rfl
  obtain ⟨_, q6, r6, _⟩ := hc 6 _ rfl
  obtain ⟨_, q7, r7, _⟩ := hc 7 _ rfl
  obtain ⟨_, q8, r8, _⟩ := hc 8 _ rfl
  obtain ⟨_, q9, r9, _⟩ := hc 9 _ rfl
  obtain ⟨_, q10, r10, _⟩ := hc 10 _ rfl
  obtain ⟨_, q11, r11, _⟩ := hc 11 _ rfl
  obtain ⟨_, q12, r12, _⟩ := hc 12 _ rfl
  obtain ⟨_, q13, r13, _⟩ := hc 13 _ rfl
  obtain ⟨_, q14, r14, _⟩ := hc 14 _ rfl
  obtain ⟨_, q15, r15, _⟩ := hc 15 _ rfl
  obtain ⟨_, q16, r16, _⟩ := hc 16 _ rfl
  obtain ⟨_, q17, r17, _⟩ := hc 17 _ rfl
  obtain ⟨_, q18, r18, _⟩ := hc 18 _ rfl
  cases q0; cases q1; cases q2; cases q3; cases q4; cases q5; cases q6; cases q7; cases q8; cases q9; cases q10; cases q11; cases q12; cases q13; cases q14; cases q15; cases q16; cases q17; cases q18
  obtain ⟨a13, k13, e13, _, _⟩ := reads_ints r15
  obtain ⟨a14, k14, e14, _, _⟩ := reads_pairs r16
  obtain ⟨a15, k15, e15⟩ := r17.form
  obtain ⟨a16, k16, e16⟩ := r18.form
  rw [List.length_map] at e15 e16
  subst e13 e14 e15 e16
  exact ⟨q, a13, k13, a14, k14, a15, k15, a16, k16, ⟨r0.int, r1.int, r2.int, r3.int, r4.int, r5.int, r6.int, r7.int, r8.int, r9.str, r10.flt, r11.int, r12.int, r13.flt, r14.str, rfl, rfl, rfl, rfl⟩, hB, ⟨r15, r16, r17, r18⟩⟩
end
end Go.Proofs.YtgmekkgbobmplaaGreat
