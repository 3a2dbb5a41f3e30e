/- Texts laid together: CoA CoB CoC CoD CoE CoF CoI. -/
import Derived.Test.YtpgfdnmlkaoigabBaC
import Derived.Deep.QuietTactic
/- Members, quorums, configurations, as functions. No walk here. -/
namespace Go.Proofs.Ytpgfdnmlkaoigab
open Go.RowKit

def fltZ (n : Int) : Int := if n < 1 then 0 else (n - 1) / 3
def quoZ (n : Int) : Int := if n < 1 then 0 else (n + fltZ n) / 2 + 1
def wekZ (n : Int) : Int := if n < 1 then 0 else fltZ n + 1
theorem fltZ_lo {n : Int} (h : n < 1) : fltZ n = 0 := if_pos h
theorem quoZ_lo {n : Int} (h : n < 1) : quoZ n = 0 := if_pos h
theorem wekZ_lo {n : Int} (h : n < 1) : wekZ n = 0 := if_pos h
theorem fltZ_hi {n : Int} (h : ¬ n < 1) : fltZ n = (n - 1) / 3 := if_neg h
theorem quoZ_hi {n : Int} (h : ¬ n < 1) : quoZ n = (n + fltZ n) / 2 + 1 := if_neg h
theorem wekZ_hi {n : Int} (h : ¬ n < 1) : wekZ n = fltZ n + 1 := if_neg h
theorem fltZ_le {n : Int} (h : ¬ n < 1) : 0 ≤ fltZ n ∧ 3 * fltZ n ≤ n - 1 := by rw [fltZ_hi h]; omega
/-- The i-th of the members is one, and stands behind the one ahead of it. -/
def okAt (l : List Int) (i : Nat) : Bool := decide (0 ≤ l.getD i 0 ∧ l.getD i 0 < 16) && (decide (i = 0) || decide (l.getD (i - 1) 0 < l.getD i 0))
def okTo (l : List Int) : Nat → Bool
  | 0 => true
  | j + 1 => okTo l j && okAt l j
theorem okTo_succ (l : List Int) (j : Nat) : okTo l (j + 1) = (okTo l j && okAt l j) := rfl
theorem okTo_false (l : List Int) (j n : Nat) (h : okTo l j = false) (hn : j ≤ n) : okTo l n = false := by
  induction n with
  | zero =>
    obtain rfl : j = 0 := by omega
    exact h
  | succ n ih =>
    by_cases e : j = n + 1
    · rw [← e]; exact h
    · rw [okTo_succ, ih (by omega)]; rfl
theorem okAt_no1 (l : List Int) (i : Nat) (h : ¬ (0 ≤ l.getD i 0 ∧ l.getD i 0 < 16)) : okAt l i = false := by rw [okAt, decide_eq_false h]; rfl
theorem okAt_no2 (l : List Int) (i : Nat) (h0 : i ≠ 0) (h : ¬ (l.getD (i - 1) 0 < l.getD i 0)) : okAt l i = false := by rw [okAt, decide_eq_false h, decide_eq_false h0]; simp
theorem okAt_yes0 (l : List Int) (h : 0 ≤ l.getD 0 0 ∧ l.getD 0 0 < 16) : okAt l 0 = true := by rw [okAt, decide_eq_true h]; rfl
theorem okAt_yes (l : List Int) (i : Nat) (h : 0 ≤ l.getD i 0 ∧ l.getD i 0 < 16) (h1 : l.getD (i - 1) 0 < l.getD i 0) : okAt l i = true := by rw [okAt, decide_eq_true h, decide_eq_true h1]; simp
/-- Are the members right? -/
def memB (l : List Int) : Bool := okTo l l.length && decide (4 ≤ l.length ∧ l.length ≤ 10)
/-- Is the configuration right? -/
def rightC (ep : Int) (l : List Int) : Bool := decide (0 ≤ ep ∧ ep ≤ 60) && memB l
def hasM (l : List Int) (id : Int) : Bool := decide (id ∈ l)
theorem okTo_at (l : List Int) : ∀ n, okTo l n = true → ∀ i, i < n → okAt l i = true
  | 0, _, i, hi => by omega
  | n + 1, h, i, hi => by
    rw [okTo_succ, Bool.and_eq_true_iff] at h
    by_cases e : i = n
    · rw [e]; exact h.2
    · exact okTo_at l n h.1 i (by omega)
theorem mem_len {l : List Int} (h : memB l = true) : 4 ≤ l.length ∧ l.length ≤ 10 := of_decide_eq_true (Bool.and_eq_true_iff.1 h).2
theorem mem_at {l : List Int} (h : memB l = true) (i : Nat) (hi : i < l.length) : okAt l i = true := okTo_at l _ (Bool.and_eq_true_iff.1 h).1 i hi
theorem mem_range {l : List Int} (h : memB l = true) (i : Nat) (hi : i < l.length) : 0 ≤ l.getD i 0 ∧ l.getD i 0 < 16 := of_decide_eq_true (Bool.and_eq_true_iff.1 (mem_at h i hi)).1
theorem mem_rise {l : List Int} (h : memB l = true) (i : Nat) (hi : i + 1 < l.length) : l.getD i 0 < l.getD (i + 1) 0 := by
  have := (Bool.and_eq_true_iff.1 (mem_at h (i + 1) hi)).2
  simpa using this
/-- Who leads. -/
def leadN (l : List Int) (view : Int) : Nat := (view % (l.length : Int)).toNat
def leads (ep : Int) (l : List Int) (view : Int) : Bool := rightC ep l && decide (0 ≤ view)
def leadZ (ep : Int) (l : List Int) (view : Int) : Int := if leads ep l view then l.getD (leadN l view) 0 else 0
end Go.Proofs.Ytpgfdnmlkaoigab

/- The document's counts, members and leaders. -/
namespace Go.Proofs.Ytpgfdnmlkaoigab
open Go.RowKit

end Go.Proofs.Ytpgfdnmlkaoigab

/- The document's members. -/
namespace Go.Proofs.Ytpgfdnmlkaoigab
open Go.RowKit

end Go.Proofs.Ytpgfdnmlkaoigab

/- The document's: who is a member, which configuration is right, who leads. -/
namespace Go.Proofs.Ytpgfdnmlkaoigab
open Go.RowKit

theorem not_mem_snoc {l : List Int} {id : Int} {j : Nat} (h : id ∉ l.take j) (hx : l.getD j 0 ≠ id) (hj : j < l.length) : id ∉ l.take (j + 1) := by
  rw [List.take_add_one, List.getElem?_eq_getElem hj]
  rw [List.getD_eq_getElem?_getD, List.getElem?_eq_getElem hj] at hx
  intro hm
  rcases List.mem_append.1 hm with h1 | h1
  · exact h h1
  · simp at h1 hx
    exact hx h1.symm
theorem mem_of_get {l : List Int} {id : Int} {j : Nat} (hx : l.getD j 0 = id) (hj : j < l.length) : id ∈ l := by
  rw [List.getD_eq_getElem?_getD, List.getElem?_eq_getElem hj] at hx
  rw [← hx]
  exact List.getElem_mem hj
theorem getD_some {l : List Int} {j : Nat} (hj : j < l.length) : l[j]? = some (l.getD j 0) := by rw [List.getD_eq_getElem?_getD, List.getElem?_eq_getElem hj]; rfl
theorem IntsIn.alloc {w : World} {a : Option Addr} {l : List Int} (h : IntsIn w a l) (o : Obj) : IntsIn (w.alloc o) a l := h.keep ((Below.refl w.heap.size w).alloc (Nat.le_refl _) o) (Nat.le_refl _)
end Go.Proofs.Ytpgfdnmlkaoigab

/- The document's leaders. -/
namespace Go.Proofs.Ytpgfdnmlkaoigab
open Go.RowKit

theorem right_mem {ep : Int} {l : List Int} (h : rightC ep l = true) : (0 ≤ ep ∧ ep ≤ 60) ∧ memB l = true := by
  obtain ⟨h1, h2⟩ := Bool.and_eq_true_iff.1 h
  exact ⟨of_decide_eq_true h1, h2⟩
theorem leadN_lt (l : List Int) (view : Int) (hl : 0 < l.length) : leadN l view < l.length ∧ view % (l.length : Int) = (leadN l view : Int) := by
  unfold leadN
  have h1 := Int.emod_nonneg view (show (l.length : Int) ≠ 0 by omega)
  have h2 := Int.emod_lt_of_pos view (show (0 : Int) < (l.length : Int) by omega)
  omega
/-- A struct of two cells, as laid. -/
theorem conf_cells (w : World) (ep s : Value) : (w.alloc (.cells #[ep, s] 31)).heap[w.heap.size]? = some (.cells [ep, s].toArray 31 (0, 0)) := heap_alloc_last w _
end Go.Proofs.Ytpgfdnmlkaoigab

/- The document's: who joins, who leaves. -/
namespace Go.Proofs.Ytpgfdnmlkaoigab
open Go.RowKit

/-- The members with id, so far. -/
def joinTo (l : List Int) (id : Int) : Nat → List Int
  | 0 => []
  | j + 1 => joinTo l id j ++ (if (j : Int) = id ∨ (j : Int) ∈ l then [(j : Int)] else [])
theorem joinTo_yes (l : List Int) (id : Int) (j : Nat) (h : (j : Int) = id ∨ (j : Int) ∈ l) : joinTo l id (j + 1) = joinTo l id j ++ [(j : Int)] := by rw [joinTo, if_pos h]
theorem joinTo_no (l : List Int) (id : Int) (j : Nat) (h : ¬ ((j : Int) = id ∨ (j : Int) ∈ l)) : joinTo l id (j + 1) = joinTo l id j := by rw [joinTo, if_neg h, List.append_nil]
theorem joinTo_len (l : List Int) (id : Int) : ∀ j, (joinTo l id j).length ≤ j
  | 0 => Nat.le_refl _
  | j + 1 => by
    have := joinTo_len l id j
    rw [joinTo, List.length_append]
    split <;> simp <;> omega
def joinE (l : List Int) (id : Int) : Int := if ¬ (memB l = true ∧ 0 ≤ id ∧ id < 16) then 1 else if hasM l id = true then 7 else if 10 ≤ l.length then 10 else 0
def joinR (l : List Int) (id : Int) : List Int := if joinE l id = 0 then joinTo l id 16 else []
/-- The members without id. -/
def leaveF (l : List Int) (id : Int) : List Int := l.filter fun z => decide (z ≠ id)
def leaveE (l : List Int) (id : Int) : Int := if ¬ (memB l = true ∧ 0 ≤ id ∧ id < 16) then 1 else if hasM l id = false then 8 else if l.length ≤ 4 then 9 else 0
def leaveR (l : List Int) (id : Int) : List Int := if leaveE l id = 0 then leaveF l id else []
theorem leave_snoc (l : List Int) (id : Int) (j : Nat) (hj : j < l.length) :
    (l.getD j 0 ≠ id → leaveF (l.take (j + 1)) id = (leaveF (l.take j) id) ++ [l.getD j 0]) ∧
    (l.getD j 0 = id → leaveF (l.take (j + 1)) id = leaveF (l.take j) id) := by
  unfold leaveF
  rw [List.take_add_one, getD_some hj, List.filter_append]
  constructor
  · intro h
    rw [List.getD_eq_getElem?_getD] at h
    congr 1
    simp [h]
  · intro h
    rw [List.getD_eq_getElem?_getD] at h
    simp [h]

end Go.Proofs.Ytpgfdnmlkaoigab

/- Members as rising lists; who joined and left. No walk here. -/
namespace Go.Proofs.Ytpgfdnmlkaoigab
open Go.RowKit

abbrev Inc (l : List Int) : Prop := l.Pairwise (· < ·)
theorem inc_eq : ∀ (a b : List Int), Inc a → Inc b → (∀ x, x ∈ a ↔ x ∈ b) → a = b
  | [], [], _, _, _ => rfl
  | [], y :: b, _, _, h => absurd ((h y).2 (List.mem_cons_self ..)) (by simp)
  | x :: a, [], _, _, h => absurd ((h x).1 (List.mem_cons_self ..)) (by simp)
  | x :: a, y :: b, ha, hb, h => by
    obtain ⟨hx, ha1⟩ := List.pairwise_cons.1 ha
    obtain ⟨hy, hb1⟩ := List.pairwise_cons.1 hb
    have e : x = y := by
      have h1 := (h x).1 (List.mem_cons_self ..)
      have h2 := (h y).2 (List.mem_cons_self ..)
      rcases List.mem_cons.1 h1 with h1 | h1
      · exact h1
      · rcases List.mem_cons.1 h2 with h2 | h2
        · exact h2.symm
        · have := hx y h2
          have := hy x h1
          omega
    subst e
    congr 1
    refine inc_eq a b ha1 hb1 (fun z => ⟨fun hz => ?_, fun hz => ?_⟩)
    · rcases List.mem_cons.1 ((h z).1 (List.mem_cons_of_mem _ hz)) with rfl | h1
      · have := hx z hz; omega
      · exact h1
    · rcases List.mem_cons.1 ((h z).2 (List.mem_cons_of_mem _ hz)) with rfl | h1
      · have := hy z hz; omega
      · exact h1
theorem getD_get (l : List Int) (i : Nat) (h : i < l.length) : l.getD i 0 = l[i] := by
  rw [List.getD_eq_getElem?_getD, List.getElem?_eq_getElem h]; rfl
theorem inc_step (l : List Int) (h : ∀ i, i + 1 < l.length → l.getD i 0 < l.getD (i + 1) 0) : Inc l := by
  refine List.pairwise_iff_getElem.2 (fun i j hi hj hij => ?_)
  obtain ⟨d, rfl⟩ : ∃ d, j = i + 1 + d := ⟨j - i - 1, by omega⟩
  induction d with
  | zero =>
    have := h i hj
    rwa [getD_get l i hi, getD_get l (i + 1) hj] at this
  | succ d ih =>
    have h1 := ih (by omega) (by omega)
    have h2 := h (i + 1 + d) hj
    rw [getD_get l _ (by omega), getD_get l (i + 1 + d + 1) hj] at h2
    exact Int.lt_trans h1 h2
theorem mem_inc {l : List Int} (h : memB l = true) : Inc l := inc_step l (fun i hi => mem_rise h i hi)
theorem mem_in {l : List Int} (h : memB l = true) (x : Int) (hx : x ∈ l) : 0 ≤ x ∧ x < 16 := by
  obtain ⟨i, hi, rfl⟩ := List.getElem_of_mem hx
  have := mem_range h i hi
  rwa [getD_get l i hi] at this
theorem okTo_all (l : List Int) : ∀ n, (∀ i, i < n → okAt l i = true) → okTo l n = true
  | 0, _ => rfl
  | n + 1, h => by rw [okTo_succ, okTo_all l n (fun i hi => h i (by omega)), h n (by omega)]; rfl
/-- Rising, in range, neither few nor many: right. -/
theorem mem_of {l : List Int} (h1 : Inc l) (h2 : ∀ x, x ∈ l → 0 ≤ x ∧ x < 16) (h3 : 4 ≤ l.length ∧ l.length ≤ 10) : memB l = true := by
  rw [memB, decide_eq_true h3, Bool.and_true]
  refine okTo_all l _ (fun i hi => ?_)
  have hr := h2 _ (List.getElem_mem hi)
  rw [← getD_get l i hi] at hr
  cases i with
  | zero => exact okAt_yes0 l hr
  | succ i =>
    refine okAt_yes l (i + 1) hr ?_
    have := List.pairwise_iff_getElem.1 h1 i (i + 1) (by omega) hi (by omega)
    rwa [← getD_get l i (by omega), ← getD_get l (i + 1) hi] at this
theorem joinTo_mem (l : List Int) (id : Int) : ∀ n x, x ∈ joinTo l id n ↔ ∃ j : Nat, j < n ∧ x = (j : Int) ∧ (x = id ∨ x ∈ l)
  | 0, x => by simp [joinTo]
  | n + 1, x => by
    rw [joinTo, List.mem_append, joinTo_mem l id n x]
    constructor
    · rintro (⟨j, hj, h⟩ | h)
      · exact ⟨j, by omega, h⟩
      · split at h
        · next hc =>
          obtain rfl := List.mem_singleton.1 h
          exact ⟨n, by omega, rfl, hc⟩
        · simp at h
    · rintro ⟨j, hj, rfl, h⟩
      by_cases e : j = n
      · subst e
        right
        rw [if_pos h]
        exact List.mem_singleton.2 rfl
      · exact .inl ⟨j, by omega, rfl, h⟩
theorem joinTo_inc (l : List Int) (id : Int) : ∀ n, Inc (joinTo l id n)
  | 0 => List.Pairwise.nil
  | n + 1 => by
    rw [joinTo]
    refine List.pairwise_append.2 ⟨joinTo_inc l id n, ?_, fun x hx y hy => ?_⟩
    · split <;> simp
    · obtain ⟨j, hj, rfl, _⟩ := (joinTo_mem l id n x).1 hx
      split at hy
      · obtain rfl := List.mem_singleton.1 hy
        omega
      · simp at hy
theorem join_mem {l : List Int} {id : Int} (h : memB l = true) (h0 : 0 ≤ id ∧ id < 16) (x : Int) : x ∈ joinTo l id 16 ↔ x = id ∨ x ∈ l := by
  rw [joinTo_mem]
  constructor
  · rintro ⟨j, hj, rfl, h⟩
    exact h
  · intro hx
    have hr : 0 ≤ x ∧ x < 16 := by
      rcases hx with rfl | hx
      · exact h0
      · exact mem_in h x hx
    exact ⟨x.toNat, by omega, by omega, hx⟩
theorem leave_mem (l : List Int) (id x : Int) : x ∈ leaveF l id ↔ x ∈ l ∧ x ≠ id := by
  rw [leaveF, List.mem_filter]
  simp
theorem leave_inc {l : List Int} (h : Inc l) (id : Int) : Inc (leaveF l id) := List.Pairwise.filter _ h
theorem leave_len {l : List Int} (h : Inc l) (id : Int) (hi : id ∈ l) : (leaveF l id).length + 1 = l.length := by
  induction l with
  | nil => simp at hi
  | cons y l ih =>
    obtain ⟨hy, hl⟩ := List.pairwise_cons.1 h
    rw [leaveF, List.filter_cons]
    by_cases e : y = id
    · subst e
      rw [if_neg (by simp), List.length_cons, List.filter_eq_self.2]
      intro z hz
      have := hy z hz
      simp
      omega
    · have hi2 : id ∈ l := by
        rcases List.mem_cons.1 hi with h | h
        · exact absurd h.symm e
        · exact h
      rw [if_pos (by simp [e]), List.length_cons, List.length_cons]
      have := ih hl hi2
      rw [leaveF] at this
      omega
theorem joinE_ok {l : List Int} {id : Int} (h : joinE l id = 0) : memB l = true ∧ (0 ≤ id ∧ id < 16) ∧ id ∉ l ∧ l.length < 10 := by
  unfold joinE at h
  split at h
  · cases h
  · next h1 =>
    have h1 := Decidable.not_not.1 h1
    split at h
    · cases h
    · next h2 =>
      split at h
      · cases h
      · next h3 => exact ⟨h1.1, h1.2, fun hi => h2 (decide_eq_true hi), by omega⟩
theorem leaveE_ok {l : List Int} {id : Int} (h : leaveE l id = 0) : memB l = true ∧ (0 ≤ id ∧ id < 16) ∧ id ∈ l ∧ 4 < l.length := by
  unfold leaveE at h
  split at h
  · cases h
  · next h1 =>
    have h1 := Decidable.not_not.1 h1
    split at h
    · cases h
    · next h2 =>
      split at h
      · cases h
      · next h3 =>
        refine ⟨h1.1, h1.2, ?_, by omega⟩
        cases e : hasM l id with
        | false => exact absurd e h2
        | true => exact of_decide_eq_true e
/-- Who joined and leaves leaves the members as they were. -/
theorem join_leave {l : List Int} {id : Int} (h : joinE l id = 0) : leaveF (joinR l id) id = l ∧ (joinR l id).length = l.length + 1 := by
  obtain ⟨hm, h0, hn, hl⟩ := joinE_ok h
  have e : leaveF (joinR l id) id = l := by
    rw [joinR, if_pos h]
    refine inc_eq _ _ (leave_inc (joinTo_inc l id 16) id) (mem_inc hm) (fun x => ?_)
    rw [leave_mem, join_mem hm h0]
    constructor
    · rintro ⟨rfl | hx, hne⟩
      · exact absurd rfl hne
      · exact hx
    · intro hx
      exact ⟨.inr hx, fun e => hn (e ▸ hx)⟩
  refine ⟨e, ?_⟩
  have hin : id ∈ joinR l id := by
    rw [joinR, if_pos h, join_mem hm h0]
    exact .inl rfl
  have hinc : Inc (joinR l id) := by
    rw [joinR, if_pos h]
    exact joinTo_inc l id 16
  have := leave_len hinc id hin
  rw [e] at this
  omega
theorem join_right {l : List Int} {id : Int} (h : joinE l id = 0) : memB (joinR l id) = true := by
  obtain ⟨hm, h0, hn, hl⟩ := joinE_ok h
  have hlen := (join_leave h).2
  have := (mem_len hm).1
  refine mem_of ?_ (fun x hx => ?_) (by omega)
  · rw [joinR, if_pos h]
    exact joinTo_inc l id 16
  · rw [joinR, if_pos h, join_mem hm h0] at hx
    rcases hx with rfl | hx
    · exact h0
    · exact mem_in hm x hx
theorem leave_right {l : List Int} {id : Int} (h : leaveE l id = 0) : memB (leaveR l id) = true ∧ (leaveR l id).length + 1 = l.length := by
  obtain ⟨hm, h0, hi, hl⟩ := leaveE_ok h
  have hlen := leave_len (mem_inc hm) id hi
  have := (mem_len hm).2
  rw [leaveR, if_pos h]
  refine ⟨mem_of (leave_inc (mem_inc hm) id) (fun x hx => mem_in hm x ((leave_mem l id x).1 hx).1) (by omega), hlen⟩
theorem join_then {l : List Int} {id : Int} (h : joinE l id = 0) : leaveE (joinR l id) id = 0 ∧ leaveR (joinR l id) id = l := by
  obtain ⟨hm, h0, hn, hl⟩ := joinE_ok h
  have hin : hasM (joinR l id) id = true := decide_eq_true (by rw [joinR, if_pos h, join_mem hm h0]; exact .inl rfl)
  have e : leaveE (joinR l id) id = 0 := by
    have := (mem_len hm).1
    rw [leaveE, if_neg (fun hc => hc ⟨join_right h, h0⟩), hin, if_neg (by decide), if_neg (by rw [(join_leave h).2]; omega)]
  exact ⟨e, by rw [leaveR, if_pos e, (join_leave h).1]⟩
theorem leave_then {l : List Int} {id : Int} (h : leaveE l id = 0) : joinE (leaveR l id) id = 0 ∧ joinR (leaveR l id) id = l := by
  obtain ⟨hm, h0, hi, hl⟩ := leaveE_ok h
  have hR : leaveR l id = leaveF l id := by rw [leaveR, if_pos h]
  have hno : ¬ hasM (leaveR l id) id = true := fun hc => by
    have := of_decide_eq_true hc
    rw [hR, leave_mem] at this
    exact this.2 rfl
  have e : joinE (leaveR l id) id = 0 := by
    have h2 := (leave_right h).2
    have := (mem_len hm).2
    rw [joinE, if_neg (fun hc => hc ⟨(leave_right h).1, h0⟩), if_neg hno, if_neg (by omega)]
  refine ⟨e, ?_⟩
  rw [joinR, if_pos e]
  refine inc_eq _ _ (joinTo_inc _ id 16) (mem_inc hm) (fun x => ?_)
  rw [join_mem (leave_right h).1 h0, hR, leave_mem]
  constructor
  · rintro (rfl | hx)
    · exact hi
    · exact hx.1
  · intro hx
    by_cases e : x = id
    · exact .inl e
    · exact .inr ⟨hx, e⟩
theorem has_join {l : List Int} {id : Int} (h : joinE l id = 0) (z : Int) : hasM (joinR l id) z = (decide (z = id) || hasM l z) := by
  obtain ⟨hm, h0, hn, hl⟩ := joinE_ok h
  have hiff : z ∈ joinR l id ↔ z = id ∨ z ∈ l := by rw [joinR, if_pos h, join_mem hm h0]
  unfold hasM
  by_cases h1 : z = id <;> by_cases h2 : z ∈ l <;> by_cases h3 : z ∈ joinR l id <;> simp_all
theorem has_leave {l : List Int} {id : Int} (h : leaveE l id = 0) (z : Int) : hasM (leaveR l id) z = (decide (z ≠ id) && hasM l z) := by
  have hiff : z ∈ leaveR l id ↔ z ∈ l ∧ z ≠ id := by rw [leaveR, if_pos h, leave_mem]
  unfold hasM
  by_cases h1 : z = id <;> by_cases h2 : z ∈ l <;> by_cases h3 : z ∈ leaveR l id <;> simp_all
end Go.Proofs.Ytpgfdnmlkaoigab
