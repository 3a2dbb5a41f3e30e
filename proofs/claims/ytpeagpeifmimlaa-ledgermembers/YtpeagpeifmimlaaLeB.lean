/- Ledgers as plain things: what a request comes to, what a turn does, what is right at all times. No walk here. -/
import Derived.Test.YtpeagpeifmimlaaLeA
import Derived.Test.YtpeagpeifmimlaaDsB
import Derived.Test.YtpeagpeifmimlaaCoJ
import Derived.Test.YtpeagpeifmimlaaCoI
namespace Go.Proofs.Ytpeagpeifmimlaa
open Go.RowKit

/-- A client's last request: its stamp, its code, its real's bits. -/
abbrev De := Nat × Int × Nat
structure Ls where
  ep : Nat
  mem : List Int
  nxt : List Int
  dn : Nat
  its : List Kb
  lst : List De
def Ls.at (s : Ls) (c : Nat) : De := s.lst.getD c (0, 0, 0)
def fullS (s : Ls) : Bool := decide (s.dn = 4 * (s.ep + 1))
def codeZ (e : Int) : Int := if e = 7 then 3 else if e = 10 then 6 else if e = 8 then 4 else 5
/-- Coming and going. -/
def movE (l : List Int) (r : Rq) : Int := if r.k = 6 then joinE l r.id else leaveE l r.id
def movR (l : List Int) (r : Rq) : List Int := if r.k = 6 then joinR l r.id else leaveR l r.id
def movN (l : List Int) (r : Rq) : List Int := if movE l r = 0 then movR l r else l
def movC (l : List Int) (r : Rq) : Int := if movE l r = 0 then 0 else codeZ (movE l r)
/-- Keys. -/
def keyN (L : List Kb) (r : Rq) : List Kb :=
  if r.k = 1 then (if getK r.key L = none ∧ 16 ≤ L.length then L else putK r.key (canW r.b) L)
  else match getK r.key L with
    | none => L
    | some x => if r.k = 2 then putK r.key (addW x r.b) L else if r.k = 3 then putK r.key (mostW x r.b) L else if r.k = 4 then cutK r.key L else L
def keyC (L : List Kb) (r : Rq) : Int :=
  if r.k = 1 then (if getK r.key L = none ∧ 16 ≤ L.length then 2 else 0)
  else if getK r.key L = none then 1 else 0
def keyF (L : List Kb) (r : Rq) : Nat :=
  if r.k = 1 then (if getK r.key L = none ∧ 16 ≤ L.length then 0 else canW r.b)
  else match getK r.key L with
    | none => 0
    | some x => if r.k = 2 then addW x r.b else if r.k = 3 then mostW x r.b else x
def isMov (r : Rq) : Bool := decide (r.k = 6 ∨ r.k = 7)
def effS (s : Ls) (r : Rq) : Ls := if isMov r then { s with nxt := movN s.nxt r } else { s with its := keyN s.its r }
def effC (s : Ls) (r : Rq) : Int := if isMov r then movC s.nxt r else keyC s.its r
def effF (s : Ls) (r : Rq) : Nat := if isMov r then 0 else keyF s.its r
def clN (r : Rq) : Nat := (r.c - 1).toNat
/-- A right request that is done. -/
def ansS (s : Ls) (r : Rq) : Ls := if r.st ≤ ((s.at (clN r)).1 : Int) then s else { effS s r with lst := s.lst.set (clN r) (r.st.toNat, effC s r, effF s r) }
def ansC (s : Ls) (r : Rq) : Int := if r.st < ((s.at (clN r)).1 : Int) then 7 else if r.st = ((s.at (clN r)).1 : Int) then (s.at (clN r)).2.1 else effC s r
def ansF (s : Ls) (r : Rq) : Nat := if r.st < ((s.at (clN r)).1 : Int) then 0 else if r.st = ((s.at (clN r)).1 : Int) then (s.at (clN r)).2.2 else effF s r
def moreS (s : Ls) : Ls := { s with dn := s.dn + 1 }
def fitR (r : Rq) : Bool := nullB r || rightB r
def doE (s : Ls) (r : Rq) : Int := if fitR r = false then 1 else if fullS s then 18 else 0
def doS (s : Ls) (r : Rq) : Ls := if doE s r = 0 then (if nullB r then moreS s else ansS (moreS s) r) else s
def doC (s : Ls) (r : Rq) : Int := if doE s r = 0 then (if nullB r then 8 else ansC s r) else 0
def doF (s : Ls) (r : Rq) : Nat := if doE s r = 0 then (if nullB r then 0 else ansF s r) else 0
def turnE (s : Ls) : Int := if fullS s = false then 18 else if s.ep = 60 then 3 else 0
def turnS (s : Ls) : Ls := if turnE s = 0 then { s with ep := s.ep + 1, mem := s.nxt } else s
def itOk (y : Kb) : Prop := (1 ≤ y.1.size ∧ y.1.size ≤ 16) ∧ canW y.2 = y.2 ∧ y.2 < 18446744073709551616
def deOk (d : De) : Prop := d.1 ≤ 1048576 ∧ rsB d.2.1 = true ∧ canW d.2.2 = d.2.2 ∧ d.2.2 < 18446744073709551616 ∧ (d.1 = 0 → d.2 = (0, 0))
structure LOk (s : Ls) : Prop where
  cf : rightC (s.ep : Int) s.mem = true
  nx : memB s.nxt = true
  lo : 4 * s.ep ≤ s.dn
  hi : s.dn ≤ 4 * (s.ep + 1)
  rise : Rise s.its
  few : s.its.length ≤ 16
  keys : ∀ y, y ∈ s.its → itOk y
  eight : s.lst.length = 8
  deeds : ∀ d, d ∈ s.lst → deOk d
theorem LOk.ep {s : Ls} (h : LOk s) : s.ep ≤ 60 := by
  have := (rightC_ep h.cf).1
  omega
theorem LOk.mem {s : Ls} (h : LOk s) : memB s.mem = true := (rightC_ep h.cf).2
theorem canW_nought : canW 0 = 0 := by decide
theorem can_idem (b : Nat) : canW (canW b) = canW b := canW_idem b
theorem can_most (a b : Nat) : canW (mostW a b) = mostW a b := by
  unfold mostW
  cases decide (rankW a < rankW b) <;> simp [canW_idem]
theorem most_lt {a b : Nat} (ha : a < 18446744073709551616) (hb : b < 18446744073709551616) : mostW a b < 18446744073709551616 := by
  unfold mostW
  cases decide (rankW a < rankW b)
  · exact canW_lt ha
  · exact canW_lt hb
theorem getK_ok {s : Ls} (h : LOk s) {k : ByteArray} {x : Nat} (hk : getK k s.its = some x) : canW x = x ∧ x < 18446744073709551616 := (h.keys _ (get_some hk)).2
/-- The keys stay right. -/
theorem keys_put {L : List Kb} (hr : Rise L) (hf : L.length ≤ 16) (hk : ∀ y, y ∈ L → itOk y) {k : ByteArray} {b : Nat} (hb : itOk (k, b)) (hn : getK k L = none → L.length < 16) :
    Rise (putK k b L) ∧ (putK k b L).length ≤ 16 ∧ ∀ y, y ∈ putK k b L → itOk y := by
  refine ⟨hr.put, ?_, fun y hy => ?_⟩
  · rw [len_put hr]
    split
    · rename_i h
      exact hn h
    · exact hf
  · rcases mem_put hy with e | hy
    · rw [e]; exact hb
    · exact hk y hy
theorem keyed_size {r : Rq} (h : rightB r = true) (hm : isMov r = false) : 1 ≤ r.key.size ∧ r.key.size ≤ 16 := by
  rw [rightB, Bool.and_eq_true] at h
  have h2 := h.2
  unfold isMov at hm
  simp only [decide_eq_false_iff_not] at hm
  unfold opB at h2
  rw [if_neg hm] at h2
  split at h2
  · simp only [keyedB, Bool.and_eq_true, decide_eq_true_eq] at h2
    exact h2.1
  · split at h2
    · simp only [keyedB, Bool.and_eq_true, decide_eq_true_eq] at h2
      exact h2.1.1
    · cases h2
theorem keyN_ok {s : Ls} (h : LOk s) {r : Rq} (hr : rightB r = true) (hm : isMov r = false) (hb : r.b < 18446744073709551616) : Rise (keyN s.its r) ∧ (keyN s.its r).length ≤ 16 ∧ ∀ y, y ∈ keyN s.its r → itOk y := by
  have hs := keyed_size hr hm
  unfold keyN
  split
  · split
    · exact ⟨h.rise, h.few, h.keys⟩
    · rename_i hn
      refine keys_put h.rise h.few h.keys ⟨hs, canW_idem _, canW_lt hb⟩ (fun hg => ?_)
      exact Nat.lt_of_not_le (fun h16 => hn ⟨hg, h16⟩)
  · cases hg : getK r.key s.its with
    | none => exact ⟨h.rise, h.few, h.keys⟩
    | some x =>
      have hx := getK_ok h hg
      have hne : getK r.key s.its = none → s.its.length < 16 := fun e => by rw [hg] at e; cases e
      simp only []
      split
      · exact keys_put h.rise h.few h.keys ⟨hs, canW_addW _ _, addW_lt _ _⟩ hne
      · split
        · exact keys_put h.rise h.few h.keys ⟨hs, can_most _ _, most_lt hx.2 hb⟩ hne
        · split
          · refine ⟨h.rise.cut _, ?_, fun y hy => h.keys y (mem_cut.1 hy).1⟩
            have := len_cut (k := r.key) h.rise
            have := h.few
            omega
          · exact ⟨h.rise, h.few, h.keys⟩
theorem keyC_ok (L : List Kb) (r : Rq) : rsB (keyC L r) = true := by
  unfold keyC
  split <;> split <;> decide
theorem keyF_ok {s : Ls} (h : LOk s) {r : Rq} (hb : r.b < 18446744073709551616) : canW (keyF s.its r) = keyF s.its r ∧ keyF s.its r < 18446744073709551616 := by
  unfold keyF
  split
  · split
    · exact ⟨by decide, by decide⟩
    · exact ⟨canW_idem _, canW_lt hb⟩
  · cases hg : getK r.key s.its with
    | none => exact ⟨canW_nought, Nat.zero_lt_succ _⟩
    | some x =>
      have hx := getK_ok h hg
      simp only []
      split
      · exact ⟨canW_addW _ _, addW_lt _ _⟩
      · split
        · exact ⟨can_most _ _, most_lt hx.2 hb⟩
        · exact hx
theorem movN_ok {l : List Int} (h : memB l = true) (r : Rq) : memB (movN l r) = true := by
  unfold movN movR movE
  by_cases hk : r.k = 6
  · rw [if_pos hk, if_pos hk]
    split
    · rename_i he
      exact join_right he
    · exact h
  · rw [if_neg hk, if_neg hk]
    split
    · rename_i he
      exact (leave_right he).1
    · exact h
theorem movC_ok (l : List Int) (r : Rq) : rsB (movC l r) = true := by
  unfold movC codeZ
  split
  · decide
  · split
    · decide
    · split
      · decide
      · split <;> decide
theorem effC_ok (s : Ls) (r : Rq) : rsB (effC s r) = true := by
  unfold effC
  split
  · exact movC_ok _ _
  · exact keyC_ok _ _
theorem effF_ok {s : Ls} (h : LOk s) {r : Rq} (hb : r.b < 18446744073709551616) : canW (effF s r) = effF s r ∧ effF s r < 18446744073709551616 := by
  unfold effF
  split
  · exact ⟨by decide, by decide⟩
  · exact keyF_ok h hb
theorem effS_ok {s : Ls} (h : LOk s) {r : Rq} (hr : rightB r = true) (hb : r.b < 18446744073709551616) : LOk (effS s r) := by
  unfold effS
  cases hm : isMov r
  · obtain ⟨h1, h2, h3⟩ := keyN_ok h hr hm hb
    exact ⟨h.cf, h.nx, h.lo, h.hi, h1, h2, h3, h.eight, h.deeds⟩
  · exact ⟨h.cf, movN_ok h.nx r, h.lo, h.hi, h.rise, h.few, h.keys, h.eight, h.deeds⟩
theorem effS_lst (s : Ls) (r : Rq) : (effS s r).lst = s.lst := by
  unfold effS
  split <;> rfl
theorem effS_dn (s : Ls) (r : Rq) : (effS s r).dn = s.dn ∧ (effS s r).ep = s.ep ∧ (effS s r).mem = s.mem := by
  unfold effS
  split <;> exact ⟨rfl, rfl, rfl⟩
theorem cl_lt {r : Rq} (h : rightB r = true) : clN r < 8 ∧ r.c - 1 = (clN r : Int) := by
  have := (right_fields h).1
  unfold clN
  omega
theorem ansS_ok {s : Ls} (h : LOk s) {r : Rq} (hr : rightB r = true) (hb : r.b < 18446744073709551616) : LOk (ansS s r) := by
  unfold ansS
  split
  · exact h
  · have h1 := effS_ok h hr hb
    have hst := (right_fields hr).2.1
    refine ⟨h1.cf, h1.nx, h1.lo, h1.hi, h1.rise, h1.few, h1.keys, by simpa using h.eight, fun d hd => ?_⟩
    rcases List.mem_or_eq_of_mem_set hd with hd | e
    · exact h.deeds d hd
    · rw [e]
      exact ⟨by show r.st.toNat ≤ _; omega, effC_ok s r, (effF_ok h hb).1, (effF_ok h hb).2, fun h0 => by
        have : r.st.toNat = 0 := h0
        omega⟩
theorem more_ok {s : Ls} (h : LOk s) (hf : fullS s = false) : LOk (moreS s) := by
  have := of_decide_eq_false hf
  have := h.hi
  have := h.lo
  exact ⟨h.cf, h.nx, by show 4 * s.ep ≤ s.dn + 1; omega, by show s.dn + 1 ≤ 4 * (s.ep + 1); omega, h.rise, h.few, h.keys, h.eight, h.deeds⟩
theorem doE_ok {s : Ls} {r : Rq} (h : doE s r = 0) : fitR r = true ∧ fullS s = false := by
  unfold doE at h
  cases h1 : fitR r
  · simp [h1] at h
  · cases h2 : fullS s
    · exact ⟨rfl, rfl⟩
    · simp [h1, h2] at h
theorem fit_right {r : Rq} (h : fitR r = true) (hn : nullB r = false) : rightB r = true := by
  rw [fitR, hn] at h
  exact h
theorem doS_ok {s : Ls} (h : LOk s) {r : Rq} (hb : r.b < 18446744073709551616) : LOk (doS s r) := by
  unfold doS
  split
  · rename_i he
    obtain ⟨h1, h2⟩ := doE_ok he
    cases hn : nullB r
    · exact ansS_ok (more_ok h h2) (fit_right h1 hn) hb
    · exact more_ok h h2
  · exact h
theorem turnE_ok {s : Ls} (h : turnE s = 0) : fullS s = true ∧ s.ep ≠ 60 := by
  unfold turnE at h
  cases h1 : fullS s
  · simp [h1] at h
  · refine ⟨rfl, fun h2 => ?_⟩
    simp [h1, h2] at h
theorem turnS_ok {s : Ls} (h : LOk s) : LOk (turnS s) := by
  unfold turnS
  split
  · rename_i he
    obtain ⟨h1, h2⟩ := turnE_ok he
    have := of_decide_eq_true h1
    have := h.ep
    refine ⟨?_, h.nx, by show 4 * (s.ep + 1) ≤ s.dn; omega, by show s.dn ≤ 4 * (s.ep + 1 + 1); omega, h.rise, h.few, h.keys, h.eight, h.deeds⟩
    show rightC ((s.ep + 1 : Nat) : Int) s.nxt = true
    rw [rightC, h.nx, decide_eq_true (by omega)]
    rfl
  · exact h
def newS (l : List Int) : Ls := ⟨0, l, l, 0, [], List.replicate 8 (0, 0, 0)⟩
theorem newS_ok {l : List Int} (h : rightC 0 l = true) : LOk (newS l) := by
  have hm := (rightC_ep h).2
  refine ⟨h, hm, Nat.le_refl _, Nat.zero_le _, List.Pairwise.nil, Nat.zero_le _, fun y hy => (by cases hy), rfl, fun d hd => ?_⟩
  rw [List.eq_of_mem_replicate hd]
  exact ⟨by decide, by decide, by decide, by decide, fun _ => rfl⟩
theorem LOk.at {s : Ls} (h : LOk s) {c : Nat} (hc : c < 8) : deOk (s.at c) ∧ s.lst[c]? = some (s.at c) := by
  have h1 : s.lst[c]? = some (s.at c) := by
    rw [Ls.at, List.getD_eq_getElem?_getD, List.getElem?_eq_getElem (by rw [h.eight]; exact hc)]
    rfl
  exact ⟨h.deeds _ (List.mem_of_getElem? h1), h1⟩
theorem more_at (s : Ls) (c : Nat) : (moreS s).at c = s.at c := rfl
theorem key_none {L : List Kb} {r : Rq} (h1 : r.k ≠ 1) (hg : getK r.key L = none) : keyN L r = L ∧ keyC L r = 1 ∧ keyF L r = 0 := by
  refine ⟨?_, ?_, ?_⟩
  · rw [keyN, if_neg h1, hg]
  · rw [keyC, if_neg h1, if_pos hg]
  · rw [keyF, if_neg h1, hg]
theorem key_some {L : List Kb} {r : Rq} {x : Nat} (h1 : r.k ≠ 1) (hg : getK r.key L = some x) : keyN L r = (if r.k = 2 then putK r.key (addW x r.b) L else if r.k = 3 then putK r.key (mostW x r.b) L else if r.k = 4 then cutK r.key L else L) ∧ keyC L r = 0 ∧ keyF L r = (if r.k = 2 then addW x r.b else if r.k = 3 then mostW x r.b else x) := by
  refine ⟨?_, ?_, ?_⟩
  · rw [keyN, if_neg h1, hg]
  · rw [keyC, if_neg h1, if_neg (by rw [hg]; simp)]
  · rw [keyF, if_neg h1, hg]
end Go.Proofs.Ytpeagpeifmimlaa
