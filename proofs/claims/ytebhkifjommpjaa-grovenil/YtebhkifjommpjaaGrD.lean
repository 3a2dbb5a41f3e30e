/- Which signature the document takes. -/
import Derived.Test.YtebhkifjommpjaaGrB
namespace Go.Proofs.Ytebhkifjommpjaa
open Go.RowKit

theorem head_get (sig : ByteArray) (h : 0 < sig.size) : headN sig = (sig[0]'h).toNat := by
  have hd : 0 < sig.data.toList.length := by rw [data_len]; exact h
  rw [headN, List.getD_eq_getElem?_getD, List.getElem?_eq_getElem hd]
  rfl
theorem one_size (sig : ByteArray) (h : 561 ≤ sig.size) : (oneS sig).size = 560 := by
  rw [oneS, ← data_len, ext_data, List.length_drop, List.length_take, data_len]
  omega
theorem side_size (sig : ByteArray) (k h : Nat) (hs : sig.size = 561 + 32 * h) (hk : k < h) : (sideS sig k).size = 32 := by
  rw [sideS, ← data_len, ext_data, List.length_drop, List.length_take, data_len, hs]
  omega
theorem form_no {h : Int} {sig : ByteArray} (hn : ¬ (0 ≤ h ∧ h ≤ 5 ∧ sig.size = 561 + 32 * h.toNat ∧ headN sig < 2 ^ h.toNat)) : formB h sig = false := decide_eq_false hn
theorem rec_yes (t sig : ByteArray) (h : 561 ≤ sig.size) : recS t (oneS sig) = recN t sig ∧ sigOk (oneS sig) = true := by
  have hb : sigOk (oneS sig) = true := decide_eq_true (one_size sig h)
  exact ⟨by unfold recS; rw [hb]; rfl, hb⟩

set_option maxRecDepth 100000 in
set_option maxHeartbeats 3200000 in
theorem hverify_no1 (root : ByteArray) (h : Int) (t sig : ByteArray) (w : World) (hn : ¬ (0 ≤ h ∧ h ≤ 5 ∧ (sig.size : Int) = 561 + 32 * h)) :
    Calls Try.prog 21 #[.string root, .int .i64 h, .string t, .string sig] w fun e w' => e = .returned (.bool false) ∧ Below w.heap.size w w' := by
  by_cases h0 : h < 0
  · clear hn
    go_enter Try.func21, Try.ntmps21
    go_wp2
    go_quiet (fail)
    go_wp2
    go_ret
    exact ⟨rfl, ⟨rfl, rfl, rfl, Nat.le_refl _, fun _ _ => rfl⟩⟩
  by_cases h5 : 5 < h
  · clear hn
    have h1 : ¬ (h < 0) := h0
    go_enter Try.func21, Try.ntmps21
    go_wp2
    go_quiet (fail)
    go_wp2
    go_ret
    exact ⟨rfl, ⟨rfl, rfl, rfl, Nat.le_refl _, fun _ _ => rfl⟩⟩
  · obtain ⟨k, rfl⟩ : ∃ k : Nat, h = (k : Int) := ⟨h.toNat, by omega⟩
    have h1 : (k : Int) ≤ 5 := by omega
    have h2 : (0 : Int) ≤ (k : Int) := by omega
    have e1 : IntKind.i64.wrap (32 * (k : Int)) = ((32 * k : Nat) : Int) := by rw [wrap_small _ (by omega) (by omega)]; omega
    obtain ⟨m1, em1⟩ : ∃ m1, m1 = 32 * k := ⟨_, rfl⟩
    rw [← em1] at e1
    obtain ⟨m2, em2⟩ : ∃ m2, m2 = 561 + m1 := ⟨_, rfl⟩
    have e2 : IntKind.i64.wrap (561 + (m1 : Int)) = (m2 : Int) := by rw [wrap_small _ (by omega) (by omega)]; omega
    have h3 : ((sig.size : Int) != (m2 : Int)) = true := by
      have : ¬ ((sig.size : Int) = (m2 : Int)) := fun e => hn ⟨by omega, by omega, by omega⟩
      simpa using this
    have d1 : decide ((k : Int) < 0) = false := decide_eq_false (by omega)
    have d2 : decide ((5 : Int) < (k : Int)) = false := decide_eq_false (by omega)
    clear hn h0 h5 em1 em2
    go_enter Try.func21, Try.ntmps21
    go_wp2
    go_quiet (fail)
    go_wp2
    go_ret
    exact ⟨rfl, ⟨rfl, rfl, rfl, Nat.le_refl _, fun _ _ => rfl⟩⟩
end Go.Proofs.Ytebhkifjommpjaa
