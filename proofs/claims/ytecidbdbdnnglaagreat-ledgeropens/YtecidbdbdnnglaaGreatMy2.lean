/- Texts laid together: LeB LeC. -/
import Derived.Test.YtecidbdbdnnglaaGreatLeA
import Derived.Test.YtecidbdbdnnglaaGreatMy3
import Derived.Test.YtecidbdbdnnglaaGreatCoJM
import Derived.Test.YtecidbdbdnnglaaGreatCx1
/- Ledgers as plain things: what a request comes to, what a turn does, what is right at all times. No walk here. -/
namespace Go.Proofs.YtecidbdbdnnglaaGreat
open Go.RowKit

/-- A client's last request: its stamp, its code, its real's bits. -/
abbrev De := Nat × Int × Nat
structure Ls where
  ep : Nat
  mem : List Int
  nxt : List Int
  dn : Nat
  its : List Kb
  lst : List De
def Ls.at (s : Ls) (c : Nat) : De := s.lst.getD c (0, 0, 0)
def fullS (s : Ls) : Bool := decide (s.dn = 4 * (s.ep + 1))
def codeZ (e : Int) : Int := if e = 7 then 3 else if e = 10 then 6 else if e = 8 then 4 else 5
/-- Coming and going. -/
def movE (l : List Int) (r : Rq) : Int := if r.k = 6 then joinE l r.id else leaveE l r.id
def movR (l : List Int) (r : Rq) : List Int := if r.k = 6 then joinR l r.id else leaveR l r.id
def movN (l : List Int) (r : Rq) : List Int := if movE l r = 0 then movR l r else l
def movC (l : List Int) (r : Rq) : Int := if movE l r = 0 then 0 else codeZ (movE l r)
/-- Keys. -/
def keyN (L : List Kb) (r : Rq) : List Kb :=
  if r.k = 1 then (if getK r.key L = none ∧ 16 ≤ L.length then L else putK r.key (canW r.b) L)
  else match getK r.key L with
    | none => L
    | some x => if r.k = 2 then putK r.key (addW x r.b) L else if r.k = 3 then putK r.key (mostW x r.b) L else if r.k = 4 then cutK r.key L else L
def keyC (L : List Kb) (r : Rq) : Int :=
  if r.k = 1 then (if getK r.key L = none ∧ 16 ≤ L.length then 2 else 0)
  else if getK r.key L = none then 1 else 0
def keyF (L : List Kb) (r : Rq) : Nat :=
  if r.k = 1 then (if getK r.key L = none ∧ 16 ≤ L.length then 0 else canW r.b)
  else match getK r.key L with
    | none => 0
    | some x => if r.k = 2 then addW x r.b else if r.k = 3 then mostW x r.b else x
def isMov (r : Rq) : Bool := decide (r.k = 6 ∨ r.k = 7)
def effS (s : Ls) (r : Rq) : Ls := if isMov r then { s with nxt := movN s.nxt r } else { s with its := keyN s.its r }
def effC (s : Ls) (r : Rq) : Int := if isMov r then movC s.nxt r else keyC s.its r
def effF (s : Ls) (r : Rq) : Nat := if isMov r then 0 else keyF s.its r
def clN (r : Rq) : Nat := (r.c - 1).toNat
/-- A right request that is done. -/
def ansS (s : Ls) (r : Rq) : Ls := if r.st ≤ ((s.at (clN r)).1 : Int) then s else { effS s r with lst := s.lst.set (clN r) (r.st.toNat, effC s r, effF s r) }
def ansC (s : Ls) (r : Rq) : Int := if r.st < ((s.at (clN r)).1 : Int) then 7 else if r.st = ((s.at (clN r)).1 : Int) then (s.at (clN r)).2.1 else effC s r
def ansF (s : Ls) (r : Rq) : Nat := if r.st < ((s.at (clN r)).1 : Int) then 0 else if r.st = ((s.at (clN r)).1 : Int) then (s.at (clN r)).2.2 else effF s r
def moreS (s : Ls) : Ls := { s with dn := s.dn + 1 }
def fitR (r : Rq) : Bool := nullB r || rightB r
def doE (s : Ls) (r : Rq) : Int := if fitR r = false then 1 else if fullS s then 18 else 0
def doS (s : Ls) (r : Rq) : Ls := if doE s r = 0 then (if nullB r then moreS s else ansS (moreS s) r) else s
def doC (s : Ls) (r : Rq) : Int := if doE s r = 0 then (if nullB r then 8 else ansC s r) else 0
def doF (s : Ls) (r : Rq) : Nat := if doE s r = 0 then (if nullB r then 0 else ansF s r) else 0
def turnE (s : Ls) : Int := if fullS s = false then 18 else if s.ep = 60 then 3 else 0
def turnS (s : Ls) : Ls := if turnE s = 0 then { s with ep := s.ep + 1, mem := s.nxt } else s
def itOk (y : Kb) : Prop := (1 ≤ y.1.size ∧ y.1.size ≤ 16) ∧ canW y.2 = y.2 ∧ y.2 < 18446744073709551616
def deOk (d : De) : Prop := d.1 ≤ 1048576 ∧ rsB d.2.1 = true ∧ canW d.2.2 = d.2.2 ∧ d.2.2 < 18446744073709551616 ∧ (d.1 = 0 → d.2 = (0, 0))
structure LOk (s : Ls) : Prop where
  cf : rightC (s.ep : Int) s.mem = true
  nx : memB s.nxt = true
  lo : 4 * s.ep ≤ s.dn
  hi : s.dn ≤ 4 * (s.ep + 1)
  rise : Rise s.its
  few : s.its.length ≤ 16
  keys : ∀ y, y ∈ s.its → itOk y
  eight : s.lst.length = 8
  deeds : ∀ d, d ∈ s.lst → deOk d
theorem LOk.ep {s : Ls} (h : LOk s) : s.ep ≤ 60 := by
  have := (rightC_ep h.cf).1
  omega
theorem LOk.mem {s : Ls} (h : LOk s) : memB s.mem = true := (rightC_ep h.cf).2
theorem canW_nought : canW 0 = 0 := by decide
theorem can_idem (b : Nat) : canW (canW b) = canW b := canW_idem b
theorem can_most (a b : Nat) : canW (mostW a b) = mostW a b := by
  unfold mostW
  cases decide (rankW a < rankW b) <;> simp [canW_idem]
theorem most_lt {a b : Nat} (ha : a < 18446744073709551616) (hb : b < 18446744073709551616) : mostW a b < 18446744073709551616 := by
  unfold mostW
  cases decide (rankW a < rankW b)
  · exact canW_lt ha
  · exact canW_lt hb
theorem getK_ok {s : Ls} (h : LOk s) {k : ByteArray} {x : Nat} (hk : getK k s.its = some x) : canW x = x ∧ x < 18446744073709551616 := (h.keys _ (get_some hk)).2
/-- The keys stay right. -/
theorem keys_put {L : List Kb} (hr : Rise L) (hf : L.length ≤ 16) (hk : ∀ y, y ∈ L → itOk y) {k : ByteArray} {b : Nat} (hb : itOk (k, b)) (hn : getK k L = none → L.length < 16) :
    Rise (putK k b L) ∧ (putK k b L).length ≤ 16 ∧ ∀ y, y ∈ putK k b L → itOk y := by
  refine ⟨hr.put, ?_, fun y hy => ?_⟩
  · rw [len_put hr]
    split
    · rename_i h
      exact hn h
    · exact hf
  · rcases mem_put hy with e | hy
    · rw [e]; exact hb
    · exact hk y hy
theorem keyed_size {r : Rq} (h : rightB r = true) (hm : isMov r = false) : 1 ≤ r.key.size ∧ r.key.size ≤ 16 := by
  rw [rightB, Bool.and_eq_true] at h
  have h2 := h.2
  unfold isMov at hm
  simp only [decide_eq_false_iff_not] at hm
  unfold opB at h2
  rw [if_neg hm] at h2
  split at h2
  · simp only [keyedB, Bool.and_eq_true, decide_eq_true_eq] at h2
    exact h2.1
  · split at h2
    · simp only [keyedB, Bool.and_eq_true, decide_eq_true_eq] at h2
      exact h2.1.1
    · cases h2
theorem keyN_ok {s : Ls} (h : LOk s) {r : Rq} (hr : rightB r = true) (hm : isMov r = false) (hb : r.b < 18446744073709551616) : Rise (keyN s.its r) ∧ (keyN s.its r).length ≤ 16 ∧ ∀ y, y ∈ keyN s.its r → itOk y := by
  have hs := keyed_size hr hm
  unfold keyN
  split
  · split
    · exact ⟨h.rise, h.few, h.keys⟩
    · rename_i hn
      refine keys_put h.rise h.few h.keys ⟨hs, canW_idem _, canW_lt hb⟩ (fun hg => ?_)
      exact Nat.lt_of_not_le (fun h16 => hn ⟨hg, h16⟩)
  · cases hg : getK r.key s.its with
    | none => exact ⟨h.rise, h.few, h.keys⟩
    | some x =>
      have hx := getK_ok h hg
      have hne : getK r.key s.its = none → s.its.length < 16 := fun e => by rw [hg] at e; cases e
      simp only []
      split
      · exact keys_put h.rise h.few h.keys ⟨hs, canW_addW _ _, addW_lt _ _⟩ hne
      · split
        · exact keys_put h.rise h.few h.keys ⟨hs, can_most _ _, most_lt hx.2 hb⟩ hne
        · split
          · refine ⟨h.rise.cut _, ?_, fun y hy => h.keys y (mem_cut.1 hy).1⟩
            have := len_cut (k := r.key) h.rise
            have := h.few
            omega
          · exact ⟨h.rise, h.few, h.keys⟩
theorem keyC_ok (L : List Kb) (r : Rq) : rsB (keyC L r) = true := by
  unfold keyC
  split <;> split <;> decide
theorem keyF_ok {s : Ls} (h : LOk s) {r : Rq} (hb : r.b < 18446744073709551616) : canW (keyF s.its r) = keyF s.its r ∧ keyF s.its r < 18446744073709551616 := by
  unfold keyF
  split
  · split
    · exact ⟨by decide, by decide⟩
    · exact ⟨canW_idem _, canW_lt hb⟩
  · cases hg : getK r.key s.its with
    | none => exact ⟨canW_nought, Nat.zero_lt_succ _⟩
    | some x =>
      have hx := getK_ok h hg
      simp only []
      split
      · exact ⟨canW_addW _ _, addW_lt _ _⟩
      · split
        · exact ⟨can_most _ _, most_lt hx.2 hb⟩
        · exact hx
theorem movN_ok {l : List Int} (h : memB l = true) (r : Rq) : memB (movN l r) = true := by
  unfold movN movR movE
  by_cases hk : r.k = 6
  · rw [if_pos hk, if_pos hk]
    split
    · rename_i he
      exact join_right he
    · exact h
  · rw [if_neg hk, if_neg hk]
    split
    · rename_i he
      exact (leave_right he).1
    · exact h
theorem movC_ok (l : List Int) (r : Rq) : rsB (movC l r) = true := by
  unfold movC codeZ
  split
  · decide
  · split
    · decide
    · split
      · decide
      · split <;> decide
theorem effC_ok (s : Ls) (r : Rq) : rsB (effC s r) = true := by
  unfold effC
  split
  · exact movC_ok _ _
  · exact keyC_ok _ _
theorem effF_ok {s : Ls} (h : LOk s) {r : Rq} (hb : r.b < 18446744073709551616) : canW (effF s r) = effF s r ∧ effF s r < 18446744073709551616 := by
  unfold effF
  split
  · exact ⟨by decide, by decide⟩
  · exact keyF_ok h hb
theorem effS_ok {s : Ls} (h : LOk s) {r : Rq} (hr : rightB r = true) (hb : r.b < 18446744073709551616) : LOk (effS s r) := by
  unfold effS
  cases hm : isMov r
  · obtain ⟨h1, h2, h3⟩ := keyN_ok h hr hm hb
    exact ⟨h.cf, h.nx, h.lo, h.hi, h1, h2, h3, h.eight, h.deeds⟩
  · exact ⟨h.cf, movN_ok h.nx r, h.lo, h.hi, h.rise, h.few, h.keys, h.eight, h.deeds⟩
theorem effS_lst (s : Ls) (r : Rq) : (effS s r).lst = s.lst := by
  unfold effS
  split <;> rfl
theorem effS_dn (s : Ls) (r : Rq) : (effS s r).dn = s.dn ∧ (effS s r).ep = s.ep ∧ (effS s r).mem = s.mem := by
  unfold effS
  split <;> exact ⟨rfl, rfl, rfl⟩
theorem cl_lt {r : Rq} (h : rightB r = true) : clN r < 8 ∧ r.c - 1 = (clN r : Int) := by
  have := (right_fields h).1
  unfold clN
  omega
theorem ansS_ok {s : Ls} (h : LOk s) {r : Rq} (hr : rightB r = true) (hb : r.b < 18446744073709551616) : LOk (ansS s r) := by
  unfold ansS
  split
  · exact h
  · have h1 := effS_ok h hr hb
    have hst := (right_fields hr).2.1
    refine ⟨h1.cf, h1.nx, h1.lo, h1.hi, h1.rise, h1.few, h1.keys, by simpa using h.eight, fun d hd => ?_⟩
    rcases List.mem_or_eq_of_mem_set hd with hd | e
    · exact h.deeds d hd
    · rw [e]
      exact ⟨by show r.st.toNat ≤ _; omega, effC_ok s r, (effF_ok h hb).1, (effF_ok h hb).2, fun h0 => by
        have : r.st.toNat = 0 := h0
        omega⟩
theorem more_ok {s : Ls} (h : LOk s) (hf : fullS s = false) : LOk (moreS s) := by
  have := of_decide_eq_false hf
  have := h.hi
  have := h.lo
  exact ⟨h.cf, h.nx, by show 4 * s.ep ≤ s.dn + 1; omega, by show s.dn + 1 ≤ 4 * (s.ep + 1); omega, h.rise, h.few, h.keys, h.eight, h.deeds⟩
theorem doE_ok {s : Ls} {r : Rq} (h : doE s r = 0) : fitR r = true ∧ fullS s = false := by
  unfold doE at h
  cases h1 : fitR r
  · simp [h1] at h
  · cases h2 : fullS s
    · exact ⟨rfl, rfl⟩
    · simp [h1, h2] at h
theorem fit_right {r : Rq} (h : fitR r = true) (hn : nullB r = false) : rightB r = true := by
  rw [fitR, hn] at h
  exact h
theorem doS_ok {s : Ls} (h : LOk s) {r : Rq} (hb : r.b < 18446744073709551616) : LOk (doS s r) := by
  unfold doS
  split
  · rename_i he
    obtain ⟨h1, h2⟩ := doE_ok he
    cases hn : nullB r
    · exact ansS_ok (more_ok h h2) (fit_right h1 hn) hb
    · exact more_ok h h2
  · exact h
theorem turnE_ok {s : Ls} (h : turnE s = 0) : fullS s = true ∧ s.ep ≠ 60 := by
  unfold turnE at h
  cases h1 : fullS s
  · simp [h1] at h
  · refine ⟨rfl, fun h2 => ?_⟩
    simp [h1, h2] at h
theorem turnS_ok {s : Ls} (h : LOk s) : LOk (turnS s) := by
  unfold turnS
  split
  · rename_i he
    obtain ⟨h1, h2⟩ := turnE_ok he
    have := of_decide_eq_true h1
    have := h.ep
    refine ⟨?_, h.nx, by show 4 * (s.ep + 1) ≤ s.dn; omega, by show s.dn ≤ 4 * (s.ep + 1 + 1); omega, h.rise, h.few, h.keys, h.eight, h.deeds⟩
    show rightC ((s.ep + 1 : Nat) : Int) s.nxt = true
    rw [rightC, h.nx, decide_eq_true (by omega)]
    rfl
  · exact h
def newS (l : List Int) : Ls := ⟨0, l, l, 0, [], List.replicate 8 (0, 0, 0)⟩
theorem newS_ok {l : List Int} (h : rightC 0 l = true) : LOk (newS l) := by
  have hm := (rightC_ep h).2
  refine ⟨h, hm, Nat.le_refl _, Nat.zero_le _, List.Pairwise.nil, Nat.zero_le _, fun y hy => (by cases hy), rfl, fun d hd => ?_⟩
  rw [List.eq_of_mem_replicate hd]
  exact ⟨by decide, by decide, by decide, by decide, fun _ => rfl⟩
theorem LOk.at {s : Ls} (h : LOk s) {c : Nat} (hc : c < 8) : deOk (s.at c) ∧ s.lst[c]? = some (s.at c) := by
  have h1 : s.lst[c]? = some (s.at c) := by
    rw [Ls.at, List.getD_eq_getElem?_getD, List.getElem?_eq_getElem (by rw [h.eight]; exact hc)]
    rfl
  exact ⟨h.deeds _ (List.mem_of_getElem? h1), h1⟩
theorem more_at (s : Ls) (c : Nat) : (moreS s).at c = s.at c := rfl
theorem key_none {L : List Kb} {r : Rq} (h1 : r.k ≠ 1) (hg : getK r.key L = none) : keyN L r = L ∧ keyC L r = 1 ∧ keyF L r = 0 := by
  refine ⟨?_, ?_, ?_⟩
  · rw [keyN, if_neg h1, hg]
  · rw [keyC, if_neg h1, if_pos hg]
  · rw [keyF, if_neg h1, hg]
theorem key_some {L : List Kb} {r : Rq} {x : Nat} (h1 : r.k ≠ 1) (hg : getK r.key L = some x) : keyN L r = (if r.k = 2 then putK r.key (addW x r.b) L else if r.k = 3 then putK r.key (mostW x r.b) L else if r.k = 4 then cutK r.key L else L) ∧ keyC L r = 0 ∧ keyF L r = (if r.k = 2 then addW x r.b else if r.k = 3 then mostW x r.b else x) := by
  refine ⟨?_, ?_, ?_⟩
  · rw [keyN, if_neg h1, hg]
  · rw [keyC, if_neg h1, if_neg (by rw [hg]; simp)]
  · rw [keyF, if_neg h1, hg]
end Go.Proofs.YtecidbdbdnnglaaGreat

/- Ledgers as bytes, and back. No walk here. -/
namespace Go.Proofs.YtecidbdbdnnglaaGreat
open Go.RowKit

theorem app_eq {a b c d : List UInt8} (h1 : a = b) (h2 : c = d) : a ++ c = b ++ d := by rw [h1, h2]
def itB (y : Kb) : List UInt8 := be 2 y.1.size ++ (y.1.data.toList ++ be 8 y.2)
def itsB (L : List Kb) : List UInt8 := L.flatMap itB
def dtB (p : Nat × ByteArray) : List UInt8 := be 4 p.1 ++ (be 2 p.2.size ++ p.2.data.toList)
def dtsB (D : List (Nat × ByteArray)) : List UInt8 := D.flatMap dtB
def deT (d : De) : Nat × ByteArray := (d.1, rsT d.2.1 d.2.2)
def desB (l : List De) : List UInt8 := dtsB (l.map deT)
def lgL (s : Ls) : List UInt8 := be 1 76 ++ (be 2 (textC (s.ep : Int) s.mem).size ++ ((textC (s.ep : Int) s.mem).data.toList ++ (be 1 s.nxt.length ++ (memBytes s.nxt ++ (be 4 s.dn ++ (be 1 s.its.length ++ (itsB s.its ++ desB s.lst)))))))
def lgT (s : Ls) : ByteArray := ⟨(lgL s).toArray⟩
theorem itB_len (y : Kb) : (itB y).length = y.1.size + 10 := by
  simp only [itB, List.length_append, be_len, data_len]
  omega
theorem itsB_cons (y : Kb) (L : List Kb) : itsB (y :: L) = itB y ++ itsB L := rfl
theorem itsB_app (L M : List Kb) : itsB (L ++ M) = itsB L ++ itsB M := by rw [itsB, List.flatMap_append]; rfl
theorem dtsB_cons (p : Nat × ByteArray) (D : List (Nat × ByteArray)) : dtsB (p :: D) = dtB p ++ dtsB D := rfl
theorem dtsB_app (L M : List (Nat × ByteArray)) : dtsB (L ++ M) = dtsB L ++ dtsB M := by rw [dtsB, List.flatMap_append]; rfl
theorem itsB_len : ∀ (L : List Kb), (∀ y, y ∈ L → y.1.size ≤ 16) → (itsB L).length ≤ 26 * L.length
  | [], _ => Nat.le_refl _
  | y :: L, h => by
    have h1 := itsB_len L (fun z hz => h z (by simp [hz]))
    have h2 := h y (by simp)
    rw [itsB_cons, List.length_append, itB_len, List.length_cons]
    omega
theorem rsT_size {c : Int} {f : Nat} (h : rsB c = true) : (rsT c f).size = 9 := by
  rw [rsT, if_pos h, mk_size, rsL, List.length_append, be_len, be_len]
theorem desB_cons (d : De) (l : List De) : desB (d :: l) = dtB (deT d) ++ desB l := rfl
theorem desB_app (l k : List De) : desB (l ++ k) = desB l ++ desB k := by rw [desB, List.map_append, dtsB_app]; rfl
theorem desB_len : ∀ (l : List De), (∀ d, d ∈ l → rsB d.2.1 = true) → (desB l).length = 15 * l.length
  | [], _ => rfl
  | d :: l, h => by
    have h1 := desB_len l (fun z hz => h z (by simp [hz]))
    have h2 := rsT_size (f := d.2.2) (h d (by simp))
    rw [desB_cons, List.length_append, h1, dtB, List.length_append, List.length_append, be_len, be_len, data_len, deT, h2, List.length_cons]
    omega
theorem textC_size {e : Int} {l : List Int} (h : rightC e l = true) : (textC e l).size = 4 + l.length := by
  rw [textC, if_pos h, mk_size, confB, List.length_append, List.length_append, List.length_append, be_len, be_len, be_len, memBytes_len]
theorem lgL_len {s : Ls} (h : LOk s) : (lgL s).length ≤ 569 := by
  have h1 := textC_size h.cf
  have h2 := mem_len h.mem
  have h3 := mem_len h.nx
  have h4 := itsB_len s.its (fun y hy => (h.keys y hy).1.2)
  have h5 := desB_len s.lst (fun d hd => (h.deeds d hd).2.1)
  have h6 := h.few
  have h7 := h.eight
  simp only [lgL, List.length_append, be_len, data_len, memBytes_len]
  omega
/-- Reading. -/
def rdIs (x : Rd) : Nat → Rd
  | 0 => x
  | k + 1 => (rdIs x k).txt.num 8
def rdIl (x : Rd) : Nat → List Kb
  | 0 => []
  | k + 1 => rdIl x k ++ [(tT (rdIs x k).s (rdIs x k).sh, rN (rdIs x k).txt.s (rdIs x k).txt.sh 8)]
def rdDs (x : Rd) : Nat → Rd
  | 0 => x
  | k + 1 => ((rdDs x k).num 4).txt
def rdDl (x : Rd) : Nat → List (Nat × ByteArray)
  | 0 => []
  | k + 1 => rdDl x k ++ [(rN (rdDs x k).s (rdDs x k).sh 4, tT ((rdDs x k).num 4).s ((rdDs x k).num 4).sh)]
theorem rdIl_len (x : Rd) : ∀ k, (rdIl x k).length = k
  | 0 => rfl
  | k + 1 => by rw [rdIl, List.length_append, rdIl_len x k]; rfl
theorem rdDl_len (x : Rd) : ∀ k, (rdDl x k).length = k
  | 0 => rfl
  | k + 1 => by rw [rdDl, List.length_append, rdDl_len x k]; rfl
theorem rdI_good (s : ByteArray) (L : List Kb) (rest : List UInt8) (h : s.data.toList = itsB L ++ rest) (hL : ∀ y, y ∈ L → y.1.size ≤ 65535 ∧ y.2 < 18446744073709551616) :
    ∀ k, k ≤ L.length → (rdIs ⟨s, false⟩ k).s.data.toList = itsB (L.drop k) ++ rest ∧ (rdIs ⟨s, false⟩ k).sh = false ∧ rdIl ⟨s, false⟩ k = L.take k
  | 0, _ => ⟨h, rfl, rfl⟩
  | k + 1, hk => by
    obtain ⟨h1, h2, h3⟩ := rdI_good s L rest h hL k (by omega)
    have hd : L.drop k = L[k] :: L.drop (k + 1) := (List.drop_eq_getElem_cons (by omega))
    have hr := hL _ (List.getElem_mem (show k < L.length by omega))
    rw [hd, itsB_cons, itB, List.append_assoc, List.append_assoc, List.append_assoc] at h1
    obtain ⟨g1, g2, g3⟩ := tx_good (rdIs ⟨s, false⟩ k).s L[k].1 _ h1 hr.1
    obtain ⟨f1, f2, f3⟩ := rd_good (tS (rdIs ⟨s, false⟩ k).s false) 8 L[k].2 _ g2 hr.2
    have ht : (rdIs ⟨s, false⟩ k).txt = ⟨tS (rdIs ⟨s, false⟩ k).s false, false⟩ := by rw [Rd.txt, h2, g3]
    refine ⟨?_, ?_, ?_⟩
    · rw [rdIs, ht]; exact f2
    · rw [rdIs, ht]; exact f3
    · rw [rdIl, ht, h2, h3, g1, f1, List.take_add_one, List.getElem?_eq_getElem (by omega)]
      rfl
theorem rdI_back (x : Rd) : ∀ k, (rdIs x k).sh = false → x.sh = false ∧ x.s.data.toList = itsB (rdIl x k) ++ (rdIs x k).s.data.toList
  | 0, h => ⟨h, rfl⟩
  | k + 1, h => by
    obtain ⟨h1, h2⟩ := rd_back _ _ 8 (show rB (rdIs x k).txt.s (rdIs x k).txt.sh 8 = false from h)
    obtain ⟨h3, h4, _⟩ := tx_back (rdIs x k).s (rdIs x k).sh h1
    obtain ⟨h5, h6⟩ := rdI_back x k h3
    refine ⟨h5, ?_⟩
    rw [h6, h4, rdIl, itsB_app, List.append_assoc]
    congr 1
    rw [itsB_cons, itB, List.append_assoc, List.append_assoc, List.append_assoc]
    refine app_eq rfl (app_eq rfl ?_)
    exact h2
theorem rdD_good (s : ByteArray) (L : List (Nat × ByteArray)) (rest : List UInt8) (h : s.data.toList = dtsB L ++ rest) (hL : ∀ y, y ∈ L → y.2.size ≤ 65535 ∧ y.1 < 4294967296) :
    ∀ k, k ≤ L.length → (rdDs ⟨s, false⟩ k).s.data.toList = dtsB (L.drop k) ++ rest ∧ (rdDs ⟨s, false⟩ k).sh = false ∧ rdDl ⟨s, false⟩ k = L.take k
  | 0, _ => ⟨h, rfl, rfl⟩
  | k + 1, hk => by
    obtain ⟨h1, h2, h3⟩ := rdD_good s L rest h hL k (by omega)
    have hd : L.drop k = L[k] :: L.drop (k + 1) := (List.drop_eq_getElem_cons (by omega))
    have hr := hL _ (List.getElem_mem (show k < L.length by omega))
    rw [hd, dtsB_cons, dtB, List.append_assoc, List.append_assoc, List.append_assoc] at h1
    obtain ⟨f1, f2, f3⟩ := rd_good (rdDs ⟨s, false⟩ k).s 4 L[k].1 _ h1 hr.2
    obtain ⟨g1, g2, g3⟩ := tx_good (rS (rdDs ⟨s, false⟩ k).s false 4) L[k].2 _ f2 hr.1
    have ht : (rdDs ⟨s, false⟩ k).num 4 = ⟨rS (rdDs ⟨s, false⟩ k).s false 4, false⟩ := by rw [Rd.num, h2, f3]
    refine ⟨?_, ?_, ?_⟩
    · rw [rdDs, ht]; exact g2
    · rw [rdDs, ht]; exact g3
    · rw [rdDl, ht, h2, h3, g1, f1, List.take_add_one, List.getElem?_eq_getElem (by omega)]
      rfl
theorem rdD_back (x : Rd) : ∀ k, (rdDs x k).sh = false → x.sh = false ∧ x.s.data.toList = dtsB (rdDl x k) ++ (rdDs x k).s.data.toList
  | 0, h => ⟨h, rfl⟩
  | k + 1, h => by
    obtain ⟨h3, h4, _⟩ := tx_back ((rdDs x k).num 4).s ((rdDs x k).num 4).sh (show tB ((rdDs x k).num 4).s ((rdDs x k).num 4).sh = false from h)
    obtain ⟨h1, h2⟩ := rd_back _ _ 4 (show rB (rdDs x k).s (rdDs x k).sh 4 = false from h3)
    obtain ⟨h5, h6⟩ := rdD_back x k h1
    refine ⟨h5, ?_⟩
    rw [h6, h2, rdDl, dtsB_app, List.append_assoc]
    congr 1
    rw [dtsB_cons, dtB, List.append_assoc, List.append_assoc, List.append_assoc]
    congr 1
/-- A ledger's bytes, part by part. -/
def oHead (t : ByteArray) : Nat := rN t false 1
def o1 (t : ByteArray) : Rd := (Rd.mk t false).num 1
def oCt (t : ByteArray) : ByteArray := tT (o1 t).s (o1 t).sh
def o2 (t : ByteArray) : Rd := (o1 t).txt
def oN (t : ByteArray) : Nat := rN (o2 t).s (o2 t).sh 1
def o3 (t : ByteArray) : Rd := (o2 t).num 1
def oNx (t : ByteArray) : List Int := rdL (o3 t).s (o3 t).sh (oN t)
def o4 (t : ByteArray) : Rd := ⟨(rdS (o3 t).s (o3 t).sh (oN t)).1, (rdS (o3 t).s (o3 t).sh (oN t)).2⟩
def oDn (t : ByteArray) : Nat := rN (o4 t).s (o4 t).sh 4
def o5 (t : ByteArray) : Rd := (o4 t).num 4
def oK (t : ByteArray) : Nat := rN (o5 t).s (o5 t).sh 1
def o6 (t : ByteArray) : Rd := (o5 t).num 1
def oIt (t : ByteArray) : List Kb := rdIl (o6 t) (oK t)
def o7 (t : ByteArray) : Rd := rdIs (o6 t) (oK t)
def oDe (t : ByteArray) : List (Nat × ByteArray) := rdDl (o7 t) 8
def o8 (t : ByteArray) : Rd := rdDs (o7 t) 8
def deOf (p : Nat × ByteArray) : De := (p.1, rsC p.2, rsF p.2)
def opS (t : ByteArray) : Ls := ⟨(readZ (oCt t)).toNat, readM (oCt t), oNx t, oDn t, oIt t, (oDe t).map deOf⟩
def kEm : ByteArray := ⟨#[]⟩
/-- The key ahead of the i-th. -/
def prevK (L : List Kb) : Nat → ByteArray
  | 0 => kEm
  | i + 1 => (L.getD i (kEm, 0)).1
def okI (L : List Kb) (i : Nat) : Bool := (ltK (prevK L i) (L.getD i (kEm, 0)).1 && decide ((L.getD i (kEm, 0)).1.size ≤ 16)) && (canW (L.getD i (kEm, 0)).2 == (L.getD i (kEm, 0)).2)
def okIto (L : List Kb) : Nat → Bool
  | 0 => true
  | n + 1 => okIto L n && okI L n
def okD (p : Nat × ByteArray) : Bool := okRs p.2 && (decide (p.1 ≤ 1048576) && (!decide (p.1 = 0) || sameS (rsC p.2) (rsF p.2) 0 0))
def within (t : ByteArray) : Bool := decide (4 * (readZ (oCt t)).toNat ≤ oDn t) && decide (oDn t ≤ 4 * ((readZ (oCt t)).toNat + 1))
def keysB (L : List Kb) : Bool := decide (L.length ≤ 16) && okIto L L.length
def opnB (t : ByteArray) : Bool := decide (oHead t = 76) && (readB (oCt t) && (memB (oNx t) && (within t && (keysB (oIt t) && ((oDe t).all okD && decide (endOf (o8 t).s (o8 t).sh = 0))))))
theorem okIto_at (L : List Kb) : ∀ n, okIto L n = true → ∀ i, i < n → okI L i = true
  | 0, _, i, hi => by omega
  | n + 1, h, i, hi => by
    rw [okIto, Bool.and_eq_true] at h
    by_cases e : i = n
    · rw [e]; exact h.2
    · exact okIto_at L n h.1 i (by omega)
theorem okIto_all (L : List Kb) : ∀ n, (∀ i, i < n → okI L i = true) → okIto L n = true
  | 0, _ => rfl
  | n + 1, h => by rw [okIto, okIto_all L n (fun i hi => h i (by omega)), h n (by omega)]; rfl
theorem okIto_false (L : List Kb) (j n : Nat) (h : okI L j = false) (hj : j < n) : okIto L n = false := by
  cases hn : okIto L n
  · rfl
  · rw [okIto_at L n hn j hj] at h; cases h
theorem ltK_em (k : ByteArray) : ltK kEm k = decide (1 ≤ k.size) := by
  unfold ltK kEm
  rw [← data_len k]
  cases k.data.toList with
  | nil => rfl
  | cons x l => simp
theorem getK_at {L : List Kb} {i : Nat} (h : i < L.length) : L[i]? = some (L.getD i (kEm, 0)) := by simp [h]
theorem lt_size {a b : ByteArray} (h : ltK a b = true) : 1 ≤ b.size := by
  have := of_decide_eq_true h
  rw [← data_len b]
  cases hb : b.data.toList with
  | nil => rw [hb] at this; simp at this
  | cons x l => simp
theorem rise_of {L : List Kb} (h : ∀ i, i + 1 < L.length → ltK (L.getD i (kEm, 0)).1 (L.getD (i + 1) (kEm, 0)).1 = true) : Rise L := by
  have key : ∀ d i, i + (d + 1) < L.length → ltK (L.getD i (kEm, 0)).1 (L.getD (i + (d + 1)) (kEm, 0)).1 = true := by
    intro d
    induction d with
    | zero => exact fun i hi => h i hi
    | succ d ih => exact fun i hi => ltK_trans (ih i (by omega)) (h (i + (d + 1)) (by omega))
  refine List.pairwise_iff_getElem.2 (fun i j hi hj hij => ?_)
  have := key (j - i - 1) i (by omega)
  rw [show i + (j - i - 1 + 1) = j by omega] at this
  simpa [hi, hj] using this
theorem keysB_iff (L : List Kb) (hb : ∀ y, y ∈ L → y.2 < 18446744073709551616) : keysB L = true ↔ (Rise L ∧ L.length ≤ 16 ∧ ∀ y, y ∈ L → itOk y) := by
  constructor
  · intro h
    rw [keysB, Bool.and_eq_true] at h
    have hl := of_decide_eq_true h.1
    have ha := okIto_at L _ h.2
    refine ⟨rise_of (fun i hi => ?_), hl, fun y hy => ?_⟩
    · have := ha (i + 1) hi
      simp only [okI, prevK, Bool.and_eq_true] at this
      exact this.1.1
    · obtain ⟨i, hi, rfl⟩ := List.getElem_of_mem hy
      have := ha i hi
      have hg : L.getD i (kEm, 0) = L[i] := by simp [hi]
      simp only [okI, Bool.and_eq_true, decide_eq_true_eq, beq_iff_eq, hg] at this
      exact ⟨⟨lt_size this.1.1, this.1.2⟩, this.2, hb _ hy⟩
  · rintro ⟨h1, h2, h3⟩
    rw [keysB, decide_eq_true h2, okIto_all]
    · rfl
    · intro i hi
      have hg : L.getD i (kEm, 0) = L[i] := by simp [hi]
      have hk := h3 L[i] (List.getElem_mem hi)
      have hp : ltK (prevK L i) (L.getD i (kEm, 0)).1 = true := by
        cases i with
        | zero => rw [hg, prevK, ltK_em]; exact decide_eq_true hk.1.1
        | succ i =>
          rw [hg, prevK, show L.getD i (kEm, 0) = L[i] by simp [show i < L.length by omega]]
          exact List.pairwise_iff_getElem.1 h1 i (i + 1) (by omega) hi (by omega)
      rw [okI, hp, hg, decide_eq_true hk.1.2, hk.2.1]
      simp
theorem okD_iff {p : Nat × ByteArray} (h : okD p = true) : okRs p.2 = true ∧ deOk (deOf p) ∧ deT (deOf p) = p := by
  simp only [okD, Bool.and_eq_true, decide_eq_true_eq] at h
  obtain ⟨h1, h2, h3⟩ := h
  obtain ⟨r1, r2, r3⟩ := rs_told h1
  have hc : canW (rsF p.2) = rsF p.2 := by
    have hok := h1
    simp only [okRs, Bool.and_eq_true] at hok
    obtain ⟨f1, f2⟩ := fromW_ok hok.1.1
    rw [rsF, if_pos h1, f1, f2]
  refine ⟨h1, ⟨h2, r1, hc, r3, fun h0 => ?_⟩, by rw [deT, deOf, r2]⟩
  have h0' : p.1 = 0 := h0
  rw [h0'] at h3
  simp only [decide_true, Bool.not_true, Bool.false_or, sameS, Bool.and_eq_true, decide_eq_true_eq] at h3
  show (rsC p.2, rsF p.2) = (0, 0)
  rw [h3.1, ← hc, h3.2, canW_nought]
theorem okD_of {d : De} (h : deOk d) : okD (deT d) = true ∧ deOf (deT d) = d ∧ (deT d).2.size ≤ 65535 ∧ (deT d).1 < 4294967296 := by
  obtain ⟨h1, h2, h3, h4, h5⟩ := h
  obtain ⟨r1, r2, r3⟩ := rs_back h2 h4
  have hs := rsT_size (f := d.2.2) h2
  have hd : deOf (deT d) = d := by
    show (d.1, rsC (rsT d.2.1 d.2.2), rsF (rsT d.2.1 d.2.2)) = d
    rw [r2, r3, h3]
  refine ⟨?_, hd, by show (rsT d.2.1 d.2.2).size ≤ _; omega, by show d.1 < _; omega⟩
  show (okRs (rsT d.2.1 d.2.2) && (decide (d.1 ≤ 1048576) && (!decide (d.1 = 0) || sameS (rsC (rsT d.2.1 d.2.2)) (rsF (rsT d.2.1 d.2.2)) 0 0))) = true
  rw [r1, r2, r3, h3, decide_eq_true h1]
  by_cases h0 : d.1 = 0
  · have := h5 h0
    rw [this, decide_eq_true h0]
    decide
  · rw [decide_eq_false h0]
    rfl
/-- What is read as a ledger is its text. -/
theorem op_back {t : ByteArray} (h : opnB t = true) : LOk (opS t) ∧ lgT (opS t) = t := by
  simp only [opnB, Bool.and_eq_true, decide_eq_true_eq] at h
  obtain ⟨a1, a2, a3, a4, a5, a6, a7⟩ := h
  obtain ⟨b1, b2⟩ := text_read (oCt t) a2
  obtain ⟨e1, e2⟩ := rightC_ep b1
  have hep : ((readZ (oCt t)).toNat : Int) = readZ (oCt t) := by omega
  obtain ⟨g8, z8⟩ := end_ok a7
  obtain ⟨g7, z7⟩ := rdD_back (o7 t) 8 g8
  obtain ⟨g6, z6⟩ := rdI_back (o6 t) (oK t) g7
  obtain ⟨g5, z5⟩ := rd_back (o5 t).s (o5 t).sh 1 g6
  obtain ⟨g4, z4⟩ := rd_back (o4 t).s (o4 t).sh 4 g5
  obtain ⟨g3, z3⟩ := rdS_back (o3 t).s (o3 t).sh (oN t) g4
  obtain ⟨g2, z2⟩ := rd_back (o2 t).s (o2 t).sh 1 g3
  obtain ⟨g1, z1, ht⟩ := tx_back (o1 t).s (o1 t).sh g2
  obtain ⟨_, z0⟩ := rd_back t false 1 g1
  have hbits : ∀ y, y ∈ oIt t → y.2 < 18446744073709551616 := by
    have : ∀ k y, y ∈ rdIl (o6 t) k → y.2 < 18446744073709551616 := by
      intro k
      induction k with
      | zero => intro y hy; cases hy
      | succ k ih =>
        intro y hy
        rw [rdIl, List.mem_append] at hy
        rcases hy with hy | hy
        · exact ih y hy
        · rw [List.mem_singleton.1 hy]
          exact rN_lt _ _ 8
    exact this _
  obtain ⟨k1, k2, k3⟩ := (keysB_iff _ hbits).1 a5
  have hw := a4
  simp only [within, Bool.and_eq_true, decide_eq_true_eq] at hw
  have hD : ∀ p, p ∈ oDe t → okD p = true := fun p hp => List.all_eq_true.1 a6 p hp
  refine ⟨⟨by rw [show ((opS t).ep : Int) = readZ (oCt t) from hep]; exact b1, a3, hw.1, hw.2, k1, k2, k3, by show ((oDe t).map deOf).length = 8; rw [List.length_map]; exact rdDl_len _ 8, fun d hd => ?_⟩, ?_⟩
  · obtain ⟨p, hp, rfl⟩ := List.mem_map.1 hd
    exact (okD_iff (hD p hp)).2.1
  · apply ByteArray.ext
    apply Array.ext'
    show lgL (opS t) = t.data.toList
    have hct : textC ((opS t).ep : Int) (opS t).mem = oCt t := by rw [show ((opS t).ep : Int) = readZ (oCt t) from hep]; exact b2
    have hdes : desB (opS t).lst = dtsB (oDe t) := by
      show dtsB (((oDe t).map deOf).map deT) = _
      rw [List.map_map]
      congr 1
      refine (List.map_congr_left (fun p hp => ?_)).trans (List.map_id _)
      exact (okD_iff (hD p hp)).2.2
    rw [lgL, hct, hdes]
    rw [z0, show rN t false 1 = 76 from a1]
    congr 1
    refine Eq.trans ?_ z1.symm
    congr 1
    congr 1
    refine Eq.trans ?_ z2.symm
    rw [show (opS t).nxt.length = rN (o2 t).s (o2 t).sh 1 from rdL_len _ _ _]
    congr 1
    refine Eq.trans ?_ z3.symm
    refine app_eq rfl ?_
    refine Eq.trans ?_ z4.symm
    refine app_eq rfl ?_
    refine Eq.trans ?_ z5.symm
    rw [show (opS t).its.length = rN (o5 t).s (o5 t).sh 1 from rdIl_len _ _]
    refine app_eq rfl ?_
    refine Eq.trans ?_ z6.symm
    refine app_eq rfl ?_
    refine Eq.trans ?_ z7.symm
    rw [show (rdDs (o7 t) 8).s.data.toList = [] from z8, List.append_nil]
    rfl
/-- What a ledger tells is read as it. -/
theorem op_good {s : Ls} (h : LOk s) : opnB (lgT s) = true ∧ opS (lgT s) = s := by
  have hT : (lgT s).data.toList = lgL s := rfl
  have hcs := textC_size h.cf
  have hm1 := mem_len h.mem
  have hm2 := mem_len h.nx
  have hep := h.ep
  have hhi := h.hi
  generalize lgT s = t at hT
  obtain ⟨r1, r2, r3⟩ := read_text (s.ep : Int) s.mem h.cf
  rw [lgL] at hT
  have e1 := rd_good t 1 76 _ hT (by decide)
  have q1 : o1 t = ⟨rS t false 1, false⟩ := by rw [o1, Rd.num, e1.2.2]
  have h1 := e1.2.1
  have v1 := e1.1
  clear e1 hT
  generalize rS t false 1 = s1 at q1 h1
  have e2 := tx_good s1 (textC (s.ep : Int) s.mem) _ h1 (by omega)
  have q2 : o2 t = ⟨tS s1 false, false⟩ := by rw [o2, q1, Rd.txt, e2.2.2]
  have h2 := e2.2.1
  have v2 := e2.1
  clear e2 h1
  generalize tS s1 false = s2 at q2 h2
  have e3 := rd_good s2 1 s.nxt.length _ h2 (by omega)
  have q3 : o3 t = ⟨rS s2 false 1, false⟩ := by rw [o3, q2, Rd.num, e3.2.2]
  have h3 := e3.2.1
  have v3 := e3.1
  clear e3 h2
  generalize rS s2 false 1 = s3 at q3 h3
  have hN : oN t = s.nxt.length := by rw [oN, q2]; exact v3
  obtain ⟨m1, m2, m3⟩ := rdS_good s3 s.nxt _ h3 (fun x hx => by have := mem_in h.nx x hx; omega) s.nxt.length (Nat.le_refl _)
  have hNx : oNx t = s.nxt := by rw [oNx, q3, hN, m3, List.take_length]
  have q4 : o4 t = ⟨(rdS s3 false s.nxt.length).1, false⟩ := by rw [o4, q3, hN, m2]
  rw [List.drop_length] at m1
  have h4 : (rdS s3 false s.nxt.length).1.data.toList = be 4 s.dn ++ (be 1 s.its.length ++ (itsB s.its ++ desB s.lst)) := m1
  clear m1 m2 m3 h3
  generalize (rdS s3 false s.nxt.length).1 = s4 at q4 h4
  have e5 := rd_good s4 4 s.dn _ h4 (by omega)
  have q5 : o5 t = ⟨rS s4 false 4, false⟩ := by rw [o5, q4, Rd.num, e5.2.2]
  have h5 := e5.2.1
  have v5 := e5.1
  clear e5 h4
  generalize rS s4 false 4 = s5 at q5 h5
  have hDn : oDn t = s.dn := by rw [oDn, q4]; exact v5
  have e6 := rd_good s5 1 s.its.length _ h5 (by have := h.few; omega)
  have q6 : o6 t = ⟨rS s5 false 1, false⟩ := by rw [o6, q5, Rd.num, e6.2.2]
  have h6 := e6.2.1
  have v6 := e6.1
  clear e6 h5
  generalize rS s5 false 1 = s6 at q6 h6
  have hK : oK t = s.its.length := by rw [oK, q5]; exact v6
  obtain ⟨i1, i2, i3⟩ := rdI_good s6 s.its _ h6 (fun y hy => ⟨by have := (h.keys y hy).1.2; omega, (h.keys y hy).2.2⟩) s.its.length (Nat.le_refl _)
  have hIt : oIt t = s.its := by rw [oIt, q6, hK, i3, List.take_length]
  have q7 : o7 t = ⟨(rdIs ⟨s6, false⟩ s.its.length).s, false⟩ := by
    rw [o7, q6, hK]
    cases hx : rdIs ⟨s6, false⟩ s.its.length with
    | mk ss sh => rw [hx] at i2; rw [show sh = false from i2]
  rw [List.drop_length] at i1
  have h7 : (rdIs ⟨s6, false⟩ s.its.length).s.data.toList = dtsB (s.lst.map deT) ++ [] := by rw [List.append_nil]; exact i1
  clear i1 i2 i3 h6
  generalize (rdIs ⟨s6, false⟩ s.its.length).s = s7 at q7 h7
  have h8len : (s.lst.map deT).length = 8 := by rw [List.length_map]; exact h.eight
  obtain ⟨j1, j2, j3⟩ := rdD_good s7 (s.lst.map deT) _ h7 (fun y hy => by
    obtain ⟨d, hd, rfl⟩ := List.mem_map.1 hy
    exact (okD_of (h.deeds d hd)).2.2) 8 (by omega)
  have hDe : oDe t = s.lst.map deT := by rw [oDe, q7, j3, List.take_of_length_le (by omega)]
  have hE : endOf (o8 t).s (o8 t).sh = 0 := by
    rw [o8, q7, j2]
    refine end_of ?_
    rw [j1, List.drop_of_length_le (by omega)]
    rfl
  have hCt : oCt t = textC (s.ep : Int) s.mem := by rw [oCt, q1]; exact v2
  have hZ : (readZ (oCt t)).toNat = s.ep := by rw [hCt, r2]; omega
  refine ⟨?_, ?_⟩
  · have hwi : within t = true := by
      rw [within, hZ, hDn, decide_eq_true h.lo, decide_eq_true h.hi]
      rfl
    have hks : keysB s.its = true := (keysB_iff _ (fun y hy => (h.keys y hy).2.2)).2 ⟨h.rise, h.few, h.keys⟩
    have hall : (s.lst.map deT).all okD = true := List.all_eq_true.2 (fun p hp => by
      obtain ⟨d, hd, rfl⟩ := List.mem_map.1 hp
      exact (okD_of (h.deeds d hd)).1)
    rw [opnB, show oHead t = 76 from v1, hCt, r1, hNx, h.nx, hwi, hIt, hks, hDe, hall, hE]
    rfl
  · rw [opS, hZ, hCt, r3, hNx, hDn, hIt, hDe, List.map_map]
    have : s.lst.map (deOf ∘ deT) = s.lst := (List.map_congr_left (fun d hd => (okD_of (h.deeds d hd)).2.1)).trans (List.map_id _)
    rw [this]
end Go.Proofs.YtecidbdbdnnglaaGreat
