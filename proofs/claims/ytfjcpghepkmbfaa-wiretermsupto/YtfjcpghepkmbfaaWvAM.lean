/- The laws' own beginning: a fetch is told and read. -/
import Derived.Test.YtfjcpghepkmbfaaWvA0M
namespace Go.Proofs.Ytfjcpghepkmbfaa
open Go.RowKit

def fetM : Ms := ⟨9, 3, 0, 0, zeroQ, (0, 0), ⟨#[]⟩, [], [], [], []⟩
theorem fet_b : MsB fetM where
  k := ⟨by decide, by decide⟩
  ep := ⟨by decide, by decide⟩
  v := ⟨by decide, by decide⟩
  sl := ⟨by decide, by decide⟩
  rq := ⟨⟨⟨by decide, by decide⟩, ⟨by decide, by decide⟩⟩, ⟨⟨by decide, by decide⟩, ⟨by decide, by decide⟩⟩, by unfold maxLen; decide, by decide⟩
  rc := ⟨by decide, by decide⟩
  rf := by decide
  tx := by unfold maxLen; decide
  nx := ⟨by unfold maxLen; decide, fun x hx => by cases hx⟩
  sg := ⟨by unfold maxLen; decide, fun x hx => by cases hx⟩
  cg := ⟨by unfold maxLen; decide, fun x hx => by cases hx⟩
  ln := ⟨by unfold maxLen; decide, fun x hx => by cases hx⟩
theorem fet_fit : fitB fetM = true := by decide
theorem fet_len : (msL fetM).length ≤ 65536 := by decide
theorem fet_norm : normM fetM = fetM := by rfl
set_option maxRecDepth 100000 in
set_option maxHeartbeats 3200000 in
theorem wlives_any (w : World) : Calls Try.prog 7 #[] w fun e w' => e = .returned (.bool true) ∧ Below w.heap.size w w' := by
  have HB : Hid (∀ u : World, Calls Try.prog 8 #[.agg #[.int .i64 9, .int .i64 3, .int .i64 0, .int .i64 0, .int .i64 0, .int .i64 0, .int .i64 0, .string ⟨#[]⟩, .float .f64 0, .int .i64 0, .int .i64 0, .float .f64 0, .string ⟨#[]⟩, .slice none 0 0, .slice none 0 0, .slice none 0 0, .slice none 0 0]] u fun e w' => e = .returned (.tuple #[.string ⟨(msL fetM).toArray⟩, .int .i64 0]) ∧ Below u.heap.size u w') := hid (fun u => by
    have := ibytes_any (F := fun _ => True) fetM fet_b none none none none 0 0 0 0 u ⟨.nil _ _ _, .nil _ _ _, .nil _ _ _, .nil _ _ _⟩
    rw [(byE_ok fet_fit fet_len).1, (byE_ok fet_fit fet_len).2] at this
    exact this)
  have HR : Hid (∀ u : World, Calls Try.prog 9 #[.string ⟨(msL fetM).toArray⟩] u fun e w' => (∃ a13 c13 a14 c14 a15 c15 a16 c16, e = .returned (.tuple #[.agg #[.int .i64 9, .int .i64 3, .int .i64 0, .int .i64 0, .int .i64 0, .int .i64 0, .int .i64 0, .string ⟨#[]⟩, .float .f64 0, .int .i64 0, .int .i64 0, .float .f64 0, .string ⟨#[]⟩, .slice a13 0 c13, .slice a14 0 c14, .slice a15 0 c15, .slice a16 0 c16], .int .i64 0])) ∧ Below u.heap.size u w') := hid (fun u => by
    refine (iread_any ⟨(msL fetM).toArray⟩ u).mono ?_
    rintro e w' ⟨⟨v, rfl, hv⟩, hb⟩
    rw [(told_read fet_fit fet_b fet_len).1]
    rw [(told_read fet_fit fet_b fet_len).2, fet_norm] at hv
    obtain ⟨a13, c13, a14, c14, a15, c15, a16, c16, rfl, _⟩ := hv
    exact ⟨⟨a13, c13, a14, c14, a15, c15, a16, c16, rfl⟩, hb⟩)
  generalize (⟨(msL fetM).toArray⟩ : ByteArray) = tx at HB HR
  go_enter Try.func7, Try.ntmps7
  go_wp2_with (first
    | (go_at_call 8; refine (HB.out _).mono ?_; rintro e w1 ⟨rfl, hb⟩; have H1 := hid hb; clear hb)
    | (go_at_call 9; refine (HR.out _).mono ?_; rintro e w2 ⟨⟨a13, c13, a14, c14, a15, c15, a16, c16, rfl⟩, hb⟩; have H2 := hid (H1.out.trans (hb.mono H1.out.size)); clear hb)
    | (refine wl_store_blk rfl 34 _ _ rfl w2.heap.size 0 rfl _ rfl [.int .i64 0, .int .i64 0, .int .i64 0, .int .i64 0, .int .i64 0, .int .i64 0, .int .i64 0, .string ⟨#[]⟩, .float .f64 0, .int .i64 0, .int .i64 0, .float .f64 0, .string ⟨#[]⟩, .slice none 0 0, .slice none 0 0, .slice none 0 0, .slice none 0 0] 34 (heap_alloc_last w2 _) (by simp) (by kernel_rfl) (by simp [Value.oneCell']) ?_; intro w3 Hz; have H3 := hid (Hz.out.2.below (H2.out.trans ((Below.refl w.heap.size w2).alloc H2.out.size _)) H2.out.size); have y0 := BxAt.cell (L := setAt [.int .i64 0, .int .i64 0, .int .i64 0, .int .i64 0, .int .i64 0, .int .i64 0, .int .i64 0, .string ⟨#[]⟩, .float .f64 0, .int .i64 0, .int .i64 0, .float .f64 0, .string ⟨#[]⟩, .slice none 0 0, .slice none 0 0, .slice none 0 0, .slice none 0 0] 0 [.int .i64 9, .int .i64 3, .int .i64 0, .int .i64 0, .int .i64 0, .int .i64 0, .int .i64 0, .string ⟨#[]⟩, .float .f64 0, .int .i64 0, .int .i64 0, .float .f64 0, .string ⟨#[]⟩, .slice a13 0 c13, .slice a14 0 c14, .slice a15 0 c15, .slice a16 0 c16]) Hz.out.1 0 (.int .i64 9) rfl; have y1 := BxAt.cell (L := setAt [.int .i64 0, .int .i64 0, .int .i64 0, .int .i64 0, .int .i64 0, .int .i64 0, .int .i64 0, .string ⟨#[]⟩, .float .f64 0, .int .i64 0, .int .i64 0, .float .f64 0, .string ⟨#[]⟩, .slice none 0 0, .slice none 0 0, .slice none 0 0, .slice none 0 0] 0 [.int .i64 9, .int .i64 3, .int .i64 0, .int .i64 0, .int .i64 0, .int .i64 0, .int .i64 0, .string ⟨#[]⟩, .float .f64 0, .int .i64 0, .int .i64 0, .float .f64 0, .string ⟨#[]⟩, .slice a13 0 c13, .slice a14 0 c14, .slice a15 0 c15, .slice a16 0 c16]) Hz.out.1 1 (.int .i64 3) rfl; clear Hz))
  go_ret
  exact ⟨rfl, H3.out⟩
end Go.Proofs.Ytfjcpghepkmbfaa
