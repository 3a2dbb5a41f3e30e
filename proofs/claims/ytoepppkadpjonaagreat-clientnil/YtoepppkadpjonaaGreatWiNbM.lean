/- The program's test of messages, kind by kind. -/
import Derived.Test.YtoepppkadpjonaaGreatWiNbAM
import Derived.Test.YtoepppkadpjonaaGreatWiNbBM
import Derived.Test.YtoepppkadpjonaaGreatWiNbCM
namespace Go.Proofs.YtoepppkadpjonaaGreat
open Go.RowKit
theorem ifits_2 {F : Nat → Prop} {w : World} {m : Ms} {a13 a14 a15 a16 : Option Addr} {c13 c14 c15 c16 : Nat} (h : Fx F w m a13 a14 a15 a16 c13 c14 c15 c16) (hk : m.k = 2) : Fit w m a13 a14 a15 a16 c13 c14 c15 c16 (kindB m) := by
 obtain ⟨K, eK⟩ : ∃ K : Nat, K = if nullB m.rq then 0 else 1 := ⟨_, rfl⟩
 have hV : kindB m = ((onlyB m { v := true, s := true, r := true, g := true }) && ((placeB m) && ((askB m.rq) && ((oneB m.sg K))))) := by
   unfold kindB
   rw [if_neg (by rw [hk]; decide)]; rw [if_pos hk]; rw [eK]
 cases t1 : (onlyB m { v := true, s := true, r := true, g := true }) with
 | false =>
  rw [show kindB m = false by rw [hV, t1] <;> rfl]
  exact ifits_2_0 h hk K eK t1
 | true =>
  cases t2 : (placeB m) with
  | false =>
   rw [show kindB m = false by rw [hV, t1, t2] <;> rfl]
   exact ifits_2_1 h hk K eK t1 t2
  | true =>
   cases t3 : (askB m.rq) with
   | false =>
    rw [show kindB m = false by rw [hV, t1, t2, t3] <;> rfl]
    exact ifits_2_2 h hk K eK t1 t2 t3
   | true =>
    cases t4 : (oneB m.sg K) with
    | false =>
     rw [show kindB m = false by rw [hV, t1, t2, t3, t4] <;> rfl]
     exact ifits_2_3 h hk K eK t1 t2 t3 t4
    | true =>
     rw [show kindB m = true by rw [hV, t1, t2, t3, t4] <;> rfl]
     exact ifits_2_4 h hk K eK t1 t2 t3 t4
end Go.Proofs.YtoepppkadpjonaaGreat
