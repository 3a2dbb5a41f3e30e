/- CouncilCounts: the walk. -/
import Derived.Test.YtfcbngdhbmifeaaCoL
namespace Go.Proofs.Ytfcbngdhbmifeaa
open Go.RowKit

set_option maxRecDepth 100000 in
set_option maxHeartbeats 1600000 in
theorem councilCounts_walk (n : Int) (hn : n ≤ 9223372036854775807) (w : World) :
    Calls Try.prog 3 #[.int .i64 n] w fun e w' => e = .returned (.bool true) ∧ Below w.heap.size w w' := by
  have HC := hid hn
  clear hn
  go_enter Try.func3, Try.ntmps3
  go_wp2_with (first
    | (go_at_call 9; refine (clives_any _).mono ?_; rintro e w1 ⟨rfl, hb1⟩; have H1 := hid hb1; clear hb1)
    | (go_at_call 10; refine (cfaults_any _ HC.out _).mono ?_; rintro e w2 ⟨rfl, hb2⟩; have H2 := hid (H1.out.trans (hb2.mono H1.out.size)); clear hb2)
    | (go_at_call 12; refine (cquorum_any _ HC.out _).mono ?_; rintro e w3 ⟨rfl, hb3⟩; have H3 := hid (H2.out.trans (hb3.mono H2.out.size)); clear hb3)
    | (go_at_call 14; refine (cweak_any _ HC.out _).mono ?_; rintro e w4 ⟨rfl, hb4⟩; have H4 := hid (H3.out.trans (hb4.mono H3.out.size)); clear hb4)
    | (go_at_call 11; refine (vfaults_any _ HC.out _).mono ?_; rintro e wx ⟨rfl, rfl⟩)
    | (go_at_call 13; refine (vquorum_any _ HC.out _).mono ?_; rintro e wx ⟨rfl, rfl⟩)
    | (go_at_call 15; refine (vweak_any _ HC.out _).mono ?_; rintro e wx ⟨rfl, rfl⟩))
  go_ret
  exact ⟨rfl, H4.out⟩
end Go.Proofs.Ytfcbngdhbmifeaa
