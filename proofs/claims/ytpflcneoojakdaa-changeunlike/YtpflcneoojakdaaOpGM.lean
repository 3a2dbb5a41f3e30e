/- A pair of changes as an argument. No walk here. -/
import Derived.Test.YtpflcneoojakdaaOpEM
namespace Go.Proofs.Ytpflcneoojakdaa
open Go.ChangeShapes Go.WideShapes Go.ChangeAt Go.RowKit

section
variable {S : Prop} {U : Nat}
theorem fit_pair {ds : List Dat} (h : Fits S U shPair ds) : ∃ (e o : Int) (a b : Cg), ds = .i e :: .i o :: (dCg a ++ dCg b) ∧ cgR a ∧ cgR b := by
  obtain ⟨d1, r1, rfl, ⟨x, rfl, _⟩, d2, r2, rfl, ⟨y, rfl, _⟩, d3, r3, rfl, h3, d4, r4, rfl, h4, rfl⟩ := h
  obtain ⟨a, rfl, ha⟩ := fit_chg h3
  obtain ⟨b, rfl, hb⟩ := fit_chg h4
  exact ⟨x, y, a, b, by simp, ha, hb⟩
end
section
variable {H : Type} {enc : TypeId × Value → H} {W : World} {fuel : Nat} {x : DataW H × List MemPlace}
theorem open_pair {c0 c1 c2 c3 c4 c5 c6 c7 c8 c9 c10 c11 : Value} (h : DataW.trod enc Try.prog W 0 (fun _ => true) true fuel 44 [c0, c1, c2, c3, c4, c5, c6, c7, c8, c9, c10, c11] = some x) :
    ∃ (e o : Int) (z y : Cg) (a : Option Addr) (n k : Nat) (b : Option Addr) (m l : Nat), c0 = .int .i64 e ∧ c1 = .int .i64 o ∧ c2 = .int .i64 z.1 ∧ c3 = .int .i64 z.2.1 ∧ c4 = .slice a n k ∧ c5 = .int .i64 z.2.2.2.1 ∧ c6 = .string z.2.2.2.2 ∧ c7 = .int .i64 y.1 ∧ c8 = .int .i64 y.2.1 ∧ c9 = .slice b m l ∧ c10 = .int .i64 y.2.2.2.1 ∧ c11 = .string y.2.2.2.2 ∧ cgR z ∧ cgR y ∧ Reads (fun k => k < W.heap.size) W (.slice a n k) (dCts z.2.2.1) ∧ Reads (fun k => k < W.heap.size) W (.slice b m l) (dCts y.2.2.1) := by
  obtain ⟨ds, hf, hc⟩ := (opens_all Try.prog shPair).1 _ _ _ _ of_pair h
  obtain ⟨e, o, z, y, rfl, hz, hy⟩ := fit_pair hf
  obtain ⟨_, q0, r0, _⟩ := hc 0 _ rfl
  obtain ⟨_, q1, r1, _⟩ := hc 1 _ rfl
  obtain ⟨_, q2, r2, _⟩ := hc 2 _ rfl
  obtain ⟨_, q3, r3, _⟩ := hc 3 _ rfl
  obtain ⟨_, q4, r4, _⟩ := hc 4 _ rfl
  obtain ⟨_, q5, r5, _⟩ := hc 5 _ rfl
  obtain ⟨_, q6, r6, _⟩ := hc 6 _ rfl
  obtain ⟨_, q7, r7, _⟩ := hc 7 _ rfl
  obtain ⟨_, q8, r8, _⟩ := hc 8 _ rfl
  obtain ⟨_, q9, r9, _⟩ := hc 9 _ rfl
  obtain ⟨_, q10, r10, _⟩ := hc 10 _ rfl
  obtain ⟨_, q11, r11, _⟩ := hc 11 _ rfl
  cases q0; cases q1; cases q2; cases q3; cases q4; cases q5; cases q6; cases q7; cases q8; cases q9; cases q10; cases q11
  obtain ⟨a, k, ea⟩ := Reads.form r4
  obtain ⟨b, l, eb⟩ := Reads.form r9
  subst ea eb
  exact ⟨e, o, z, y, a, _, k, b, _, l, r0.int, r1.int, r2.int, r3.int, rfl, r5.int, r6.str, r7.int, r8.int, rfl, r10.int, r11.str, hz, hy, r4.mono (fun k hk _ => hk), r9.mono (fun k hk _ => hk)⟩
end
end Go.Proofs.Ytpflcneoojakdaa
