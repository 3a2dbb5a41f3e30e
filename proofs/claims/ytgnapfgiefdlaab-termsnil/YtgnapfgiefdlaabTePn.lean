/- The program's terms of a nil book. -/
import Derived.Test.YtgnapfgiefdlaabTeP
namespace Go.Proofs.Ytgnapfgiefdlaab
open Go.RowKit

theorem tnote_nil (a : Option Addr) (n cap : Nat) (w : World) :
    Calls Try.prog 5 #[.pointer none, .slice a n cap] w fun e w' => e = .returned (.tuple #[]) ∧ Below w.heap.size w w' := by
  go_enter Try.func5, Try.ntmps5
  go_wp2
  (try simp only [Exit.inBlock, Exit.then])
  refine bodyPost_ret (results_none rfl _ _ _) rfl ?_
  exact ⟨rfl, Below.refl _ _⟩
theorem thas_nil (x : Int) (t : ByteArray) (w : World) :
    Calls Try.prog 6 #[.pointer none, .agg #[.int .i64 x, .string t]] w fun e w' => e = .returned (.bool false) ∧ Below w.heap.size w w' := by
  go_enter Try.func6, Try.ntmps6
  go_wp2
  go_ret
  exact ⟨rfl, (Below.refl _ _).alloc (Nat.le_refl _) _⟩
theorem tlen_nil (w : World) : Calls Try.prog 7 #[.pointer none] w fun e w' => e = .returned (.int .i64 0) ∧ Below w.heap.size w w' := by
  go_enter Try.func7, Try.ntmps7
  go_wp2
  go_ret
  exact ⟨rfl, Below.refl _ _⟩
theorem tderivable_nil (ab : Option Addr) (nb cb : Nat) (bad : List Int) (hb : bad.length = nb) (hbm : nb * 8 ≤ 140737488355328) (sa : Option Addr) (m cs : Nat) (ss : List (Int × ByteArray)) (hs : ss.length = m) (hsm : m ≤ maxLen) (w : World) (hI : IntsIn w ab bad) (hS : PairsIn w sa ss) :
    Calls Try.prog 8 #[.pointer none, .slice ab nb cb, .slice sa m cs] w fun e w' => e = .returned (.bool (derivB [] bad ss)) ∧ Below w.heap.size w w' :=
  tderiv_gen _ [] (fun _ => True) ab nb cb bad hb hbm sa m cs ss hs hsm (fun _ _ h _ => h) (fun x t _ u _ => thas_nil x t u) w trivial hI hS
end Go.Proofs.Ytgnapfgiefdlaab
