/- Keys with reals, rising: put, cut, looked up. No walk here. -/
import Derived.Test.YtecidbdbdnnglaaGreatBaC
namespace Go.Proofs.YtecidbdbdnnglaaGreat
open Go.RowKit

abbrev Kb := ByteArray × Nat
def ltK (a b : ByteArray) : Bool := decide (a.data.toList < b.data.toList)
theorem key_ext {a b : ByteArray} (h : a.data.toList = b.data.toList) : a = b := by
  apply ByteArray.ext
  exact Array.ext' h
theorem ltK_irr (a : ByteArray) : ltK a a = false := decide_eq_false (List.lt_irrefl _)
theorem ltK_trans {a b c : ByteArray} (h : ltK a b = true) (k : ltK b c = true) : ltK a c = true := by
  unfold ltK at *
  simp only [decide_eq_true_eq] at *
  exact List.lt_trans h k
theorem ltK_tri {a b : ByteArray} (h : a ≠ b) : ltK a b = true ∨ ltK b a = true := by
  unfold ltK
  simp only [decide_eq_true_eq]
  by_cases h1 : a.data.toList < b.data.toList
  · exact .inl h1
  · right
    rw [List.not_lt] at h1
    rcases List.le_iff_lt_or_eq.1 h1 with h2 | h2
    · exact h2
    · exact absurd (key_ext h2).symm h
theorem ltK_asym {a b : ByteArray} (h : ltK a b = true) : ltK b a = false := by
  cases hb : ltK b a
  · rfl
  · have := ltK_trans h hb
    rw [ltK_irr] at this
    cases this
theorem ltK_ne {a b : ByteArray} (h : ltK a b = true) : a ≠ b := fun e => by
  rw [e, ltK_irr] at h
  cases h
def offK (k : ByteArray) (y : Kb) : Bool := !decide (y.1 = k)
def cutK (k : ByteArray) (L : List Kb) : List Kb := L.filter (offK k)
def putK (k : ByteArray) (b : Nat) : List Kb → List Kb
  | [] => [(k, b)]
  | x :: r => if ltK x.1 k = true then x :: putK k b r else (k, b) :: cutK k (x :: r)
def getK (k : ByteArray) : List Kb → Option Nat
  | [] => none
  | x :: r => if x.1 = k then some x.2 else getK k r
def Rise (L : List Kb) : Prop := L.Pairwise fun x y => ltK x.1 y.1 = true
theorem Rise.cut {L : List Kb} (h : Rise L) (k : ByteArray) : Rise (cutK k L) := List.Pairwise.filter _ h
theorem mem_cut {L : List Kb} {k : ByteArray} {y : Kb} : y ∈ cutK k L ↔ y ∈ L ∧ y.1 ≠ k := by
  simp [cutK, offK]
theorem mem_put {k : ByteArray} {b : Nat} {y : Kb} : ∀ {L : List Kb}, y ∈ putK k b L → y = (k, b) ∨ y ∈ L
  | [], h => by
    rw [putK] at h
    exact .inl (List.mem_singleton.1 h)
  | x :: r, h => by
    rw [putK] at h
    split at h
    · rcases List.mem_cons.1 h with e | h
      · exact .inr (by rw [e]; simp)
      · rcases mem_put h with e | h
        · exact .inl e
        · exact .inr (by simp [h])
    · rcases List.mem_cons.1 h with e | h
      · exact .inl e
      · exact .inr (mem_cut.1 h).1
theorem Rise.put {k : ByteArray} {b : Nat} : ∀ {L : List Kb}, Rise L → Rise (putK k b L)
  | [], _ => by rw [putK]; exact List.pairwise_singleton _ _
  | x :: r, h => by
    obtain ⟨h1, h2⟩ := List.pairwise_cons.1 h
    rw [putK]
    split
    · rename_i hx
      refine List.pairwise_cons.2 ⟨fun y hy => ?_, Rise.put h2⟩
      rcases mem_put hy with e | hy
      · rw [e]; exact hx
      · exact h1 y hy
    · rename_i hx
      refine List.pairwise_cons.2 ⟨fun y hy => ?_, h.cut k⟩
      obtain ⟨hy, hne⟩ := mem_cut.1 hy
      have hxk : ltK k y.1 = true := by
        rcases ltK_tri hne with h3 | h3
        · exfalso
          rcases List.mem_cons.1 hy with e | hy
          · rw [e] at h3; exact hx h3
          · exact hx (ltK_trans (h1 y hy) h3)
        · exact h3
      exact hxk
theorem get_none {k : ByteArray} : ∀ {L : List Kb}, getK k L = none ↔ ∀ y ∈ L, y.1 ≠ k
  | [] => by simp [getK]
  | x :: r => by
    rw [getK]
    by_cases hx : x.1 = k
    · simp [hx]
    · rw [if_neg hx, get_none (L := r)]
      simp [hx]
theorem get_some {k : ByteArray} {b : Nat} : ∀ {L : List Kb}, getK k L = some b → (k, b) ∈ L
  | x :: r, h => by
    rw [getK] at h
    by_cases hx : x.1 = k
    · rw [if_pos hx] at h
      obtain rfl := hx
      obtain rfl := Option.some.inj h
      simp
    · rw [if_neg hx] at h
      exact List.mem_cons_of_mem _ (get_some h)
theorem get_mem {k : ByteArray} {b : Nat} : ∀ {L : List Kb}, Rise L → (k, b) ∈ L → getK k L = some b
  | x :: r, h, hm => by
    obtain ⟨h1, h2⟩ := List.pairwise_cons.1 h
    rw [getK]
    rcases List.mem_cons.1 hm with e | hm
    · rw [← e, if_pos rfl]
    · rw [if_neg (ltK_ne (h1 _ hm)), get_mem h2 hm]
theorem get_put {k : ByteArray} {b : Nat} : ∀ {L : List Kb}, getK k (putK k b L) = some b
  | [] => by simp [putK, getK]
  | x :: r => by
    rw [putK]
    split
    · rename_i hx
      rw [getK, if_neg (ltK_ne hx)]
      exact get_put
    · simp [getK]
theorem cut_none {k : ByteArray} {L : List Kb} (h : getK k L = none) : cutK k L = L :=
  List.filter_eq_self.2 fun y hy => by simp [offK, get_none.1 h y hy]
theorem len_cut {k : ByteArray} : ∀ {L : List Kb}, Rise L → (cutK k L).length + (if getK k L = none then 0 else 1) = L.length
  | [], _ => by simp [cutK, getK]
  | x :: r, h => by
    obtain ⟨h1, h2⟩ := List.pairwise_cons.1 h
    by_cases hx : x.1 = k
    · have hr : getK k r = none := get_none.2 fun y hy => by
        have := ltK_ne (h1 y hy)
        rw [hx] at this
        exact this.symm
      have hc : cutK k (x :: r) = cutK k r := by simp [cutK, offK, hx]
      rw [hc, cut_none hr, getK, if_pos hx]
      simp
    · have hc : cutK k (x :: r) = x :: cutK k r := by simp [cutK, offK, hx]
      rw [hc, getK, if_neg hx, List.length_cons, List.length_cons]
      have := len_cut (k := k) h2
      omega
theorem len_put {k : ByteArray} {b : Nat} : ∀ {L : List Kb}, Rise L → (putK k b L).length = if getK k L = none then L.length + 1 else L.length
  | [], _ => by simp [putK, getK]
  | x :: r, h => by
    obtain ⟨h1, h2⟩ := List.pairwise_cons.1 h
    rw [putK]
    split
    · rename_i hx
      rw [getK, if_neg (ltK_ne hx), List.length_cons, len_put h2]
      split <;> simp
    · have := len_cut (k := k) h
      rw [List.length_cons]
      split
      · rename_i h3
        rw [if_pos h3] at this
        omega
      · rename_i h3
        rw [if_neg h3] at this
        omega
/-- Where a key stands. -/
def posK (k : ByteArray) : List Kb → Nat
  | [] => 0
  | x :: r => if x.1 = k then 0 else posK k r + 1
def posZ (k : ByteArray) (L : List Kb) : Int := if getK k L = none then -1 else (posK k L : Int)
theorem pos_at {k : ByteArray} {b : Nat} : ∀ {L : List Kb}, getK k L = some b → L[posK k L]? = some (k, b)
  | x :: r, h => by
    rw [getK] at h
    rw [posK]
    by_cases hx : x.1 = k
    · rw [if_pos hx] at h ⊢
      obtain rfl := hx
      obtain rfl := Option.some.inj h
      rfl
    · rw [if_neg hx] at h ⊢
      rw [List.getElem?_cons_succ]
      exact pos_at h
theorem put_low {k : ByteArray} {b : Nat} : ∀ {L M : List Kb}, (∀ y ∈ L, ltK y.1 k = true) → putK k b (L ++ M) = L ++ putK k b M
  | [], _, _ => rfl
  | x :: r, M, h => by
    rw [List.cons_append, putK, if_pos (h x (by simp)), put_low (fun y hy => h y (by simp [hy])), List.cons_append]
theorem put_snoc {k : ByteArray} {b : Nat} (x : Kb) : ∀ {L : List Kb}, (∃ y, y ∈ L ∧ ltK y.1 k = false) → putK k b (L ++ [x]) = putK k b L ++ cutK k [x]
  | [], h => by obtain ⟨y, hy, _⟩ := h; simp at hy
  | z :: r, h => by
    rw [List.cons_append, putK, putK]
    split
    · rename_i hz
      obtain ⟨y, hy, hl⟩ := h
      rcases List.mem_cons.1 hy with e | hy
      · rw [e, hz] at hl; cases hl
      · rw [put_snoc x ⟨y, hy, hl⟩, List.cons_append]
    · show (k, b) :: cutK k ((z :: r) ++ [x]) = _
      rw [cutK, List.filter_append]
      rfl
/-- What a loop that puts a key has laid of the first ones, and whether it has been placed. -/
def allB (k : ByteArray) (L : List Kb) : Bool := L.all fun y => ltK y.1 k
def outB (k : ByteArray) (b : Nat) (L : List Kb) : List Kb := if allB k L then L else putK k b L
theorem allB_snoc (k : ByteArray) (L : List Kb) (x : Kb) : allB k (L ++ [x]) = (allB k L && ltK x.1 k) := by simp [allB]
theorem out_low {k : ByteArray} {b : Nat} {L : List Kb} {x : Kb} (h : allB k L = true) (hx : ltK x.1 k = true) : outB k b (L ++ [x]) = outB k b L ++ [x] ∧ cutK k [x] = [x] := by
  have : allB k (L ++ [x]) = true := by rw [allB_snoc, h, hx]; rfl
  rw [outB, outB, if_pos this, if_pos h]
  refine ⟨rfl, ?_⟩
  simp [cutK, offK, ltK_ne hx]
theorem out_new {k : ByteArray} {b : Nat} {L : List Kb} {x : Kb} (h : allB k L = true) (hx : ltK x.1 k = false) : outB k b (L ++ [x]) = outB k b L ++ [(k, b)] ++ cutK k [x] := by
  have : ¬ (allB k (L ++ [x]) = true) := by rw [allB_snoc, h, hx]; simp
  rw [outB, outB, if_neg this, if_pos h, put_low (fun y hy => by simpa using List.all_eq_true.1 h y hy), putK, if_neg (by simp [hx])]
  simp
theorem out_more {k : ByteArray} {b : Nat} {L : List Kb} {x : Kb} (h : allB k L = false) : outB k b (L ++ [x]) = outB k b L ++ cutK k [x] := by
  have h1 : ¬ (allB k (L ++ [x]) = true) := by rw [allB_snoc, h]; simp
  rw [outB, outB, if_neg h1, if_neg (by simp [h]), put_snoc]
  simpa [allB] using h
theorem out_end (k : ByteArray) (b : Nat) (L : List Kb) : (if allB k L then outB k b L ++ [(k, b)] else outB k b L) = putK k b L := by
  cases h : allB k L
  · simp [outB, h]
  · rw [if_pos rfl, outB, if_pos h]
    have := put_low (k := k) (b := b) (L := L) (M := []) (fun y hy => by simpa using List.all_eq_true.1 h y hy)
    rw [List.append_nil] at this
    rw [this, putK]
theorem cut_snoc (k : ByteArray) (L : List Kb) (x : Kb) : cutK k (L ++ [x]) = cutK k L ++ cutK k [x] := by simp [cutK]
theorem cut_one (k : ByteArray) (x : Kb) : cutK k [x] = if x.1 = k then [] else [x] := by
  by_cases h : x.1 = k <;> simp [cutK, offK, h]
end Go.Proofs.YtecidbdbdnnglaaGreat
