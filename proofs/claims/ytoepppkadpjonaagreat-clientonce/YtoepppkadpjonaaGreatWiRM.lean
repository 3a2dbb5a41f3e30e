/- The program's bytes of a message. -/
import Derived.Test.YtoepppkadpjonaaGreatNb12
import Derived.Test.YtoepppkadpjonaaGreatWiNbM
import Derived.Test.YtoepppkadpjonaaGreatWiNdM
import Derived.Test.YtoepppkadpjonaaGreatWiNkM
import Derived.Test.YtoepppkadpjonaaGreatNb13
namespace Go.Proofs.YtoepppkadpjonaaGreat
open Go.RowKit
theorem in_at {z a b : Int} (h : inB z a b = true) : a ≤ z ∧ z ≤ b := by
 rw [inB, Bool.and_eq_true, decide_eq_true_eq, decide_eq_true_eq] at h
 exact h
theorem sigs_w {l : List Sg} (h : sigsB l = true) : wSg l := by
 rw [sigsB, Bool.and_eq_true, decide_eq_true_eq] at h
 refine ⟨by omega, fun p hp => ?_⟩
 obtain ⟨i, hi, e⟩ := getD_mem (d := sg0) hp
 have := allTo_at h.2 i hi
 rw [e] at this
 have := in_at this
 omega
theorem ct_w {e : Int} {c : Ct} (he : inB e 0 60 = true) (h : ctB e c = true) (hb : c.2.2.1.b < 18446744073709551616) : wCt c := by
 simp only [ctB, Bool.and_eq_true] at h
 obtain ⟨⟨h1, h2⟩, h3, h4⟩ := h
 have h1 := in_at h1
 have he := in_at he
 rw [ofB, Bool.and_eq_true, decide_eq_true_eq, decide_eq_true_eq] at h2
 exact ⟨by omega, by omega, hb, sigs_w h4⟩
theorem cg_w {e : Int} {c : Cg} (he : inB e 0 60 = true) (h : cgB e c = true) (hb : ∀ x, x ∈ c.2.2.1 → x.2.2.1.b < 18446744073709551616) : wCg c := by
 simp only [cgB, ctsB, Bool.and_eq_true, decide_eq_true_eq] at h
 obtain ⟨⟨h1, h2⟩, ⟨h3, h4⟩, h5⟩ := h
 have h1 := in_at h1
 have h2 := in_at h2
 have h5 := in_at h5
 refine ⟨by omega, by omega, ⟨by omega, fun x hx => ?_⟩, by omega⟩
 obtain ⟨i, hi, e2⟩ := getD_mem (d := ct0) hx
 have := allTo_at h4 i hi
 rw [ctAt, Bool.and_eq_true, e2] at this
 exact ct_w he this.1 (hb x hx)
theorem fit_w {m : Ms} (h : fitB m = true) (hb : MsB m) : wMs m := by
 rw [fitB, Bool.and_eq_true, Bool.and_eq_true] at h
 obtain ⟨hk, he, hB⟩ := h
 obtain ⟨w1, w2, w3, w4, w5, w6, w7, w8⟩ := fit_weak he hB
 have hk2 := in_at hk
 have he2 := in_at he
 refine ⟨by omega, by omega, ?_, ?_, hb.rq.2.2.2, hb.rf, ?_, ?_, ?_, ?_⟩
 · rcases w1 with e | e
   · omega
   · have := in_at e; omega
 · rcases w2 with e | e
   · omega
   · exact ⟨e.1, by have := e.2; omega⟩
 · rcases w5 with e | e
   · rw [nil_of e]; exact ⟨by decide, fun x hx => by cases hx⟩
   · have := mem_len e
     exact ⟨by omega, fun x hx => by have := mem_in e x hx; omega⟩
 · rcases w6 with e | e
   · rw [nil_of e]; exact ⟨by decide, fun x hx => by cases hx⟩
   · exact sigs_w e
 · rcases w7 with e | ⟨e1, e2⟩
   · rw [nil_of e]; exact ⟨by decide, fun x hx => by cases hx⟩
   · exact ⟨by omega, fun x hx => cg_w he (e2 x hx) (fun y hy => ((hb.cg.2 x hx).2.1.2 y hy).2.1.2.2.2)⟩
 · rcases w8 with e | ⟨e1, e2⟩
   · rw [nil_of e]; exact ⟨by decide, fun x hx => by cases hx⟩
   · refine ⟨by omega, fun x hx => ?_⟩
     obtain ⟨i, hi, e⟩ := getD_mem (d := ln0) hx
     have := allTo_at e2 i hi
     rw [lnAt, e, Bool.and_eq_true, Bool.and_eq_true] at this
     exact ⟨(hb.ln.2 x hx).2.1.1, sigs_w this.2⟩
theorem ifits_any {F : Nat → Prop} (m : Ms) (hB : MsB m) (a13 a14 a15 a16 : Option Addr) (c13 c14 c15 c16 : Nat) (w : World) (hL : MsL F w m (.slice a13 m.nx.length c13) (.slice a14 m.sg.length c14) (.slice a15 m.cg.length c15) (.slice a16 m.ln.length c16)) :
   Calls Tryz.prog 135 #[.agg #[.int .i64 m.k, .int .i64 m.ep, .int .i64 m.v, .int .i64 m.sl, .int .i64 m.rq.c, .int .i64 m.rq.st, .int .i64 m.rq.k, .string m.rq.key, .float .f64 m.rq.b, .int .i64 m.rq.id, .int .i64 m.rs.1, .float .f64 m.rs.2, .string m.tx, .slice a13 m.nx.length c13, .slice a14 m.sg.length c14, .slice a15 m.cg.length c15, .slice a16 m.ln.length c16]] w fun e w' => e = .returned (.bool (fitB m)) ∧ Below w.heap.size w w' := by
 rw [fitB]
 cases he : inB m.ep 0 60 with
 | false =>
   rw [Bool.false_and, Bool.and_false]
   exact ifits_no m he _ _ _ _ w
 | true =>
   cases hk : inB m.k 1 10 with
   | false =>
     rw [Bool.false_and]
     exact ifits_none m he hk _ _ _ _ w
   | true =>
   rw [Bool.true_and, Bool.true_and]
   have h0 := (in_at he).1
   have h1 := (in_at he).2
   have hk := in_at hk
   by_cases e1 : m.k = 1
   · exact ifits_1 ⟨hB, h0, h1, hL⟩ e1
   by_cases e2 : m.k = 2
   · exact ifits_2 ⟨hB, h0, h1, hL⟩ e2
   by_cases e3 : m.k = 3
   · exact ifits_3 ⟨hB, h0, h1, hL⟩ e3
   by_cases e4 : m.k = 4
   · exact ifits_4 ⟨hB, h0, h1, hL⟩ e4
   by_cases e5 : m.k = 5
   · exact ifits_5 ⟨hB, h0, h1, hL⟩ e5
   by_cases e6 : m.k = 6
   · exact ifits_6 ⟨hB, h0, h1, hL⟩ e6
   by_cases e7 : m.k = 7
   · exact ifits_7 ⟨hB, h0, h1, hL⟩ e7
   by_cases e8 : m.k = 8
   · exact ifits_8 ⟨hB, h0, h1, hL⟩ e8
   by_cases e9 : m.k = 9
   · exact ifits_9 ⟨hB, h0, h1, hL⟩ e9
   · exact ifits_10 ⟨hB, h0, h1, hL⟩ (by omega)
end Go.Proofs.YtoepppkadpjonaaGreat
