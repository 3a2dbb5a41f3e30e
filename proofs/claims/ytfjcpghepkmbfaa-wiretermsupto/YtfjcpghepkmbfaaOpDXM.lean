/- A message as an argument, with the bulk of all its lists. No walk here. -/
import Derived.Test.YtfjcpghepkmbfaaGa3
import Derived.Test.YtfjcpghepkmbfaaOpXM
import Derived.Test.YtfjcpghepkmbfaaWtAM
namespace Go.Proofs.Ytfjcpghepkmbfaa
open Go.ChangeShapes Go.WideShapes Go.ChangeAt Go.RowKit

theorem bk_pairs (l : List Sg) : bkLL (l.map fun p => [.i p.1, .s p.2]) = l.length := by
  induction l with
  | nil => rfl
  | cons p r ih => rw [List.map_cons, bkLL, ih]; simp [bkL, Dat.bk]; omega
theorem bk_cts (l : List Ct) : bkLL (l.map dCt) = l.length + (l.flatMap fun x => x.2.2.2).length := by
  induction l with
  | nil => rfl
  | cons c r ih =>
    rw [List.map_cons, bkLL, ih, List.flatMap_cons, List.length_append, List.length_cons]
    have : bkL (dCt c) = c.2.2.2.length := by simp only [dCt, bkL, Dat.bk, dPairs, bk_pairs]; omega
    omega
theorem bk_cgs (l : List Cg) : bkLL (l.map dCg) = (l.flatMap cgG).length + (l.flatMap fun c => c.2.2.1).length := by
  induction l with
  | nil => rfl
  | cons c r ih =>
    rw [List.map_cons, bkLL, ih, List.flatMap_cons, List.flatMap_cons, List.length_append, List.length_append]
    have : bkL (dCg c) = c.2.2.1.length + (c.2.2.1.flatMap fun x => x.2.2.2).length := by simp only [dCg, bkL, Dat.bk, dCts, bk_cts]; omega
    have : (cgG c).length = (c.2.2.1.flatMap fun x => x.2.2.2).length + 1 := by rw [cgG, List.length_append]; rfl
    omega
theorem bk_ints (l : List Int) : bkLL (l.map fun x => [.i x]) = l.length := by
  induction l with
  | nil => rfl
  | cons p r ih => rw [List.map_cons, bkLL, ih]; simp [bkL, Dat.bk]; omega
theorem bk_lns (l : List Ln) : (l.flatMap fun k => k.2).length ≤ bkLL (l.map dLn) := by
  induction l with
  | nil => exact Nat.le_refl _
  | cons k r ih =>
    rw [List.map_cons, bkLL, List.flatMap_cons, List.length_append]
    have : bkL (dLn k) = k.1.2.length + k.2.length := by simp only [dLn, bkL, Dat.bk, dInts, dPairs, bk_pairs, bk_ints]; omega
    omega
theorem bk_tm (m : Ms) : (tmG m).length ≤ bkL (dMs m) := by
  have h1 := bk_lns m.ln
  have h2 : bkL (dMs m) = m.nx.length + (m.sg.length + (bkLL (m.cg.map dCg) + bkLL (m.ln.map dLn))) := by simp only [dMs, bkL, Dat.bk, dInts, dPairs, dCgs, dLns, bk_pairs, bk_ints]; omega
  rw [h2, bk_cgs, tmG, List.length_append, List.length_append]
  omega
section
variable {H : Type} {enc : TypeId × Value → H} {W : World} {fuel : Nat} {x : DataW H × List MemPlace}
theorem open_msgS {c0 c1 c2 c3 c4 c5 c6 c7 c8 c9 c10 c11 c12 c13 c14 c15 c16 : Value} (h : DataW.trod enc Try.prog W 0 (fun _ => true) true fuel 34 [c0, c1, c2, c3, c4, c5, c6, c7, c8, c9, c10, c11, c12, c13, c14, c15, c16] = some x) :
    ∃ (m : Ms) (a13 : Option Addr) (k13 : Nat) (a14 : Option Addr) (k14 : Nat) (a15 : Option Addr) (k15 : Nat) (a16 : Option Addr) (k16 : Nat), (c0 = .int .i64 m.k ∧ c1 = .int .i64 m.ep ∧ c2 = .int .i64 m.v ∧ c3 = .int .i64 m.sl ∧ c4 = .int .i64 m.rq.c ∧ c5 = .int .i64 m.rq.st ∧ c6 = .int .i64 m.rq.k ∧ c7 = .string m.rq.key ∧ c8 = .float .f64 m.rq.b ∧ c9 = .int .i64 m.rq.id ∧ c10 = .int .i64 m.rs.1 ∧ c11 = .float .f64 m.rs.2 ∧ c12 = .string m.tx ∧ c13 = .slice a13 m.nx.length k13 ∧ c14 = .slice a14 m.sg.length k14 ∧ c15 = .slice a15 m.cg.length k15 ∧ c16 = .slice a16 m.ln.length k16) ∧ MsB m ∧ MsL (fun _ => True) W m (.slice a13 m.nx.length k13) (.slice a14 m.sg.length k14) (.slice a15 m.cg.length k15) (.slice a16 m.ln.length k16) ∧ (tmG m).length ≤ Rows.uptoBulk x.1 := by
  obtain ⟨ds, hf, hc, hbk⟩ := (opens_sum Try.prog shMsg).1 _ _ _ _ of_msg h
  obtain ⟨m, rfl, hB⟩ := fit_msg hf
  obtain ⟨v13, v14, v15, v16, hcs, hL⟩ := ms_cells (m := m) rfl hc
  obtain ⟨a13, k13, e13⟩ := Reads.form hL.nx
  obtain ⟨a14, k14, e14⟩ := Reads.form hL.sg
  obtain ⟨a15, k15, e15⟩ := Reads.form hL.cg
  obtain ⟨a16, k16, e16⟩ := Reads.form hL.ln
  rw [List.length_map] at e13 e14 e15 e16
  subst e13 e14 e15 e16
  simp only [msC, List.cons.injEq, and_true] at hcs
  exact ⟨m, a13, k13, a14, k14, a15, k15, a16, k16, hcs, hB, hL, by have := bk_tm m; omega⟩
end
end Go.Proofs.Ytfjcpghepkmbfaa
