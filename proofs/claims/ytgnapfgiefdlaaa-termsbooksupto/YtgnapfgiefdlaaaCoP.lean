/- The program's council: what each call answers. -/
import Derived.Test.YtgnapfgiefdlaaaCoU
import Derived.Test.YtgnapfgiefdlaaaCoE
import Derived.Test.YtgnapfgiefdlaaaCoN
import Derived.Test.YtgnapfgiefdlaaaCoV
namespace Go.Proofs.Ytgnapfgiefdlaaa
open Go.RowKit

theorem chas_any (ep : Int) (a : Option Addr) (n cap : Nat) (l : List Int) (hn : l.length = n) (hm : n ≤ maxLen) (id : Int) (w : World) (hI : IntsIn w a l) :
    Calls Try.prog 28 #[.agg #[.int .i64 ep, .slice a n cap], .int .i64 id] w fun e w' => e = .returned (.bool (hasM l id)) ∧ Below w.heap.size w w' := by
  have HC := hid (fun u (hu : IntsIn u a l) => contains_any a n cap l hn hm id u hu)
  have HI := hid hI
  clear hI hn hm
  go_enter Try.func28, Try.ntmps28
  go_wp2_with (go_at_call 36; refine (HC.out _ (by first | exact HI.out.alloc _ | exact HI.out)).mono ?_; rintro e w1 ⟨rfl, rfl⟩)
  go_ret
  exact ⟨rfl, by first | exact Below.refl _ _ | exact ((Below.refl w.heap.size w).alloc (Nat.le_refl _) _)⟩
end Go.Proofs.Ytgnapfgiefdlaaa
