/- The document's: who is a member, which configuration is right, who leads. -/
import Derived.Test.YtpeagpeifmimlaaGreatCoC
namespace Go.Proofs.YtpeagpeifmimlaaGreat
open Go.RowKit

theorem not_mem_snoc {l : List Int} {id : Int} {j : Nat} (h : id ∉ l.take j) (hx : l.getD j 0 ≠ id) (hj : j < l.length) : id ∉ l.take (j + 1) := by
  rw [List.take_add_one, List.getElem?_eq_getElem hj]
  rw [List.getD_eq_getElem?_getD, List.getElem?_eq_getElem hj] at hx
  intro hm
  rcases List.mem_append.1 hm with h1 | h1
  · exact h h1
  · simp at h1 hx
    exact hx h1.symm
theorem mem_of_get {l : List Int} {id : Int} {j : Nat} (hx : l.getD j 0 = id) (hj : j < l.length) : id ∈ l := by
  rw [List.getD_eq_getElem?_getD, List.getElem?_eq_getElem hj] at hx
  rw [← hx]
  exact List.getElem_mem hj
theorem getD_some {l : List Int} {j : Nat} (hj : j < l.length) : l[j]? = some (l.getD j 0) := by rw [List.getD_eq_getElem?_getD, List.getElem?_eq_getElem hj]; rfl
set_option maxRecDepth 100000 in
set_option maxHeartbeats 1600000 in
theorem vhas_any (a : Option Addr) (n cap : Nat) (l : List Int) (hn : l.length = n) (hm : n ≤ maxLen) (id : Int) (w : World) (hI : IntsIn w a l) :
    Calls Tryz.prog 129 #[.slice a n cap, .int .i64 id] w fun e w' => e = .returned (.bool (hasM l id)) ∧ w' = w := by
  have hm2 : (n : Int) ≤ 9223372036854775807 := by unfold maxLen at hm; omega
  have HI := hid hI
  have HN := hid hn
  clear hI hm hn
  go_enter Tryz.func129, Tryz.ntmps129
  go_wp2
  go_loopw [5] (fun i wr => ∃ j : Nat, j ≤ n ∧ i = .int .i64 (j : Int) ∧ id ∉ l.take j ∧ wr = w)
    (fun i _ => ((n : Int) - intOf i).toNat)
  case atStart => exact ⟨0, by omega, rfl, by simp, rfl⟩
  case round =>
    obtain ⟨j, hj, rfl, hno, rfl⟩ := hrel
    by_cases hjn : j = n
    · have hj1 : ¬ ((j : Int) < (n : Int)) := by omega
      have HF : Hid (hasM l id = false) := hid (decide_eq_false (by rwa [List.take_of_length_le (by rw [HN.out]; omega)] at hno))
      clear hno hj hjn
      go_wp2
      go_ret
      exact ⟨by rw [HF.out]; rfl, rfl⟩
    · have hj1 : (j : Int) < (n : Int) := by omega
      have hj0 : (0 : Int) ≤ (j : Int) := Int.natCast_nonneg _
      have hjl : j < l.length := by rw [HN.out]; omega
      obtain ⟨g, off, rfl, hg, cz⟩ := HI.out.at j _ (getD_some hjl)
      by_cases hx : l.getD j 0 = id
      · have HF : Hid (hasM l id = true) := hid (decide_eq_true (mem_of_get hx hjl))
        rw [hx] at cz
        clear hno hj hjn hx hjl hg
        go_wp2
        go_ret
        exact ⟨by rw [HF.out]; rfl, rfl⟩
      · have HF : Hid (id ∉ l.take (j + 1)) := hid (not_mem_snoc hno hx hjl)
        obtain ⟨x, ex⟩ : ∃ x, x = l.getD j 0 := ⟨_, rfl⟩
        rw [← ex] at cz hx
        have HJ := hid (And.intro hj hjn)
        clear hno hj hjn hjl hg ex
        go_wp2
        go_roundw
        case rel => exact ⟨j + 1, by have := HJ.out; omega, by go_num, HF.out, by first | exact rfl | exact trivial⟩
        case measure => simp [intOf]; omega
theorem IntsIn.alloc {w : World} {a : Option Addr} {l : List Int} (h : IntsIn w a l) (o : Obj) : IntsIn (w.alloc o) a l := h.keep ((Below.refl w.heap.size w).alloc (Nat.le_refl _) o) (Nat.le_refl _)
set_option maxRecDepth 100000 in
set_option maxHeartbeats 1600000 in
theorem vright_any (ep : Int) (a : Option Addr) (n cap : Nat) (l : List Int) (hn : l.length = n) (hm : n ≤ maxLen) (w : World) (hI : IntsIn w a l) :
    Calls Tryz.prog 27 #[.agg #[.int .i64 ep, .slice a n cap]] w fun e w' => e = .returned (.bool (rightC ep l)) ∧ Below w.heap.size w w' := by
  by_cases h0 : 0 ≤ ep
  · by_cases h60 : ep ≤ 60
    · have HM : Hid (∀ u : World, IntsIn u a l → Calls Tryz.prog 70 #[.slice a n cap] u fun e w' => e = .returned (.bool (memB l)) ∧ Below u.heap.size u w') := hid (fun u hu => vmembers_any a n cap l hn hm u hu)
      have HR : Hid (rightC ep l = memB l) := hid (by rw [rightC, decide_eq_true (And.intro h0 h60)]; rfl)
      have HI := hid hI
      rw [HR.out]
      generalize memB l = b at HM
      clear hI hn hm
      go_enter Tryz.func27, Tryz.ntmps27
      go_wp2_with (go_at_call 70; refine (HM.out _ (by exact HI.out.alloc _)).mono ?_; rintro e w1 ⟨rfl, hb1⟩; have H1 := hid (((Below.refl w.heap.size w).alloc (Nat.le_refl _) _).trans (hb1.mono (by simp))); clear hb1)
      go_ret
      exact ⟨rfl, H1.out⟩
    · have HR : Hid (rightC ep l = false) := hid (by rw [rightC, decide_eq_false (fun h => h60 h.2)]; rfl)
      rw [HR.out]
      clear hI hn hm
      go_enter Tryz.func27, Tryz.ntmps27
      go_wp2
      go_ret
      exact ⟨rfl, (Below.refl _ _).alloc (Nat.le_refl _) _⟩
  · have HR : Hid (rightC ep l = false) := hid (by rw [rightC, decide_eq_false (fun h => h0 h.1)]; rfl)
    rw [HR.out]
    clear hI hn hm
    go_enter Tryz.func27, Tryz.ntmps27
    go_wp2
    go_ret
    exact ⟨rfl, (Below.refl _ _).alloc (Nat.le_refl _) _⟩
end Go.Proofs.YtpeagpeifmimlaaGreat
