/- A message as an argument. No walk here. -/
import Derived.Test.YtfjcpghepkmbfaaGa3
namespace Go.Proofs.Ytfjcpghepkmbfaa
open Go.ChangeShapes Go.WideShapes Go.ChangeAt Go.RowKit

section
variable {H : Type} {enc : TypeId × Value → H} {W : World} {fuel : Nat} {x : DataW H × List MemPlace}
theorem open_msg {c0 c1 c2 c3 c4 c5 c6 c7 c8 c9 c10 c11 c12 c13 c14 c15 c16 : Value} (h : DataW.trod enc Try.prog W 0 (fun _ => true) true fuel 34 [c0, c1, c2, c3, c4, c5, c6, c7, c8, c9, c10, c11, c12, c13, c14, c15, c16] = some x) :
    ∃ (m : Ms) (a13 : Option Addr) (k13 : Nat) (a14 : Option Addr) (k14 : Nat) (a15 : Option Addr) (k15 : Nat) (a16 : Option Addr) (k16 : Nat), (c0 = .int .i64 m.k ∧ c1 = .int .i64 m.ep ∧ c2 = .int .i64 m.v ∧ c3 = .int .i64 m.sl ∧ c4 = .int .i64 m.rq.c ∧ c5 = .int .i64 m.rq.st ∧ c6 = .int .i64 m.rq.k ∧ c7 = .string m.rq.key ∧ c8 = .float .f64 m.rq.b ∧ c9 = .int .i64 m.rq.id ∧ c10 = .int .i64 m.rs.1 ∧ c11 = .float .f64 m.rs.2 ∧ c12 = .string m.tx ∧ c13 = .slice a13 m.nx.length k13 ∧ c14 = .slice a14 m.sg.length k14 ∧ c15 = .slice a15 m.cg.length k15 ∧ c16 = .slice a16 m.ln.length k16) ∧ MsB m ∧ MsL (fun _ => True) W m (.slice a13 m.nx.length k13) (.slice a14 m.sg.length k14) (.slice a15 m.cg.length k15) (.slice a16 m.ln.length k16) := by
  obtain ⟨ds, hf, hc⟩ := (opens_all Try.prog shMsg).1 _ _ _ _ of_msg h
  obtain ⟨m, rfl, hB⟩ := fit_msg hf
  obtain ⟨v13, v14, v15, v16, hcs, hL⟩ := ms_cells (m := m) rfl hc
  obtain ⟨a13, k13, e13⟩ := Reads.form hL.nx
  obtain ⟨a14, k14, e14⟩ := Reads.form hL.sg
  obtain ⟨a15, k15, e15⟩ := Reads.form hL.cg
  obtain ⟨a16, k16, e16⟩ := Reads.form hL.ln
  rw [List.length_map] at e13 e14 e15 e16
  subst e13 e14 e15 e16
  simp only [msC, List.cons.injEq, and_true] at hcs
  exact ⟨m, a13, k13, a14, k14, a15, k15, a16, k16, hcs, hB, hL⟩
end
end Go.Proofs.Ytfjcpghepkmbfaa
