/- Texts laid together: LtB LtC. -/
import Derived.Test.YtecidbdbdnnglaaGreatMx6
import Derived.Test.YtecidbdbdnnglaaGreatMy4
import Derived.Test.YtecidbdbdnnglaaGreatMx4
/- A ledger behind a script. -/
namespace Go.Proofs.YtecidbdbdnnglaaGreat
open Go.RowKit

def stepS (s : Ls) (o : Stp) : Ls := if o.1 then turnS s else doS s o.2
def playS : Ls → List Stp → Ls
  | s, [] => s
  | s, o :: os => playS (stepS s o) os
theorem play_take {s : Ls} {os : List Stp} {j : Nat} {o : Stp} (h : os[j]? = some o) : playS s (os.take (j + 1)) = stepS (playS s (os.take j)) o := by
  induction os generalizing s j with
  | nil => simp at h
  | cons x xs ih =>
    cases j with
    | zero => simp at h; subst h; rfl
    | succ j => exact ih (by simpa using h)
theorem stepS_ok {s : Ls} (h : LOk s) {o : Stp} (hb : stB o) : LOk (stepS s o) := by
  rw [stepS]
  split
  · exact turnS_ok h
  · exact doS_ok h hb.2
theorem play_ok {s : Ls} (h : LOk s) : ∀ os : List Stp, (∀ o, o ∈ os → stB o) → LOk (playS s os)
  | [], _ => h
  | o :: os, hb => play_ok (stepS_ok h (hb o (List.mem_cons_self ..))) os (fun x hx => hb x (List.mem_cons_of_mem _ hx))
structure StAt (w : World) (ad : Option Addr) (j : Nat) (o : Stp) (g off : Nat) : Prop where
  is : ad = some ⟨g, off, none⟩
  lt : g < w.heap.size
  cell : ∀ (q : Nat) (v : Value), (opC o)[q]? = some v → w.cell? ⟨g, off + j * 7 + q, none⟩ = some v
theorem StpsIn.at {w : World} {ad : Option Addr} {os : List Stp} (h : StpsIn w ad os) {j : Nat} {o : Stp} (hj : os[j]? = some o) : ∃ g off, StAt w ad j o g off := by
  rcases h with rfl | ⟨g, off, ha, hg, hc⟩
  · simp at hj
  · exact ⟨g, off, ha, hg, hc j o hj⟩
theorem StAt.keep {w w' : World} {ad : Option Addr} {j : Nat} {o : Stp} {g off : Nat} (h : StAt w ad j o g off) (hb : Below w.heap.size w w') : StAt w' ad j o g off :=
  ⟨h.is, Nat.lt_of_lt_of_le h.lt hb.size, fun q v hv => (World.cell?_of_block (a := ⟨g, off + j * 7 + q, none⟩) (hb.block g h.lt)).trans (h.cell q v hv)⟩
section
variable {w : World} {ad : Option Addr} {j : Nat} {o : Stp} {g off : Nat}
theorem StAt.k0 (h : StAt w ad j o g off) : w.cell? ⟨g, off + j * 7, none⟩ = some (.bool o.1) := h.cell 0 _ rfl
theorem StAt.k1 (h : StAt w ad j o g off) : w.cell? ⟨g, off + j * 7 + 1, none⟩ = some (.int .i64 o.2.c) := h.cell 1 _ rfl
theorem StAt.k2 (h : StAt w ad j o g off) : w.cell? ⟨g, off + j * 7 + 2, none⟩ = some (.int .i64 o.2.st) := h.cell 2 _ rfl
theorem StAt.k3 (h : StAt w ad j o g off) : w.cell? ⟨g, off + j * 7 + 3, none⟩ = some (.int .i64 o.2.k) := h.cell 3 _ rfl
theorem StAt.k4 (h : StAt w ad j o g off) : w.cell? ⟨g, off + j * 7 + 4, none⟩ = some (.string o.2.key) := h.cell 4 _ rfl
theorem StAt.k5 (h : StAt w ad j o g off) : w.cell? ⟨g, off + j * 7 + 5, none⟩ = some (.int .u64 (o.2.b : Int)) := h.cell 5 _ rfl
theorem StAt.k6 (h : StAt w ad j o g off) : w.cell? ⟨g, off + j * 7 + 6, none⟩ = some (.int .i64 o.2.id) := h.cell 6 _ rfl
end
end Go.Proofs.YtecidbdbdnnglaaGreat

/- One ledger that moves, and what stays beside it. -/
namespace Go.Proofs.YtecidbdbdnnglaaGreat
open Go.RowKit

/-- What hangs on these blocks alone. -/
def Stable (L : List Nat) (R : World → Prop) : Prop := ∀ w w' : World, R w → w.heap.size ≤ w'.heap.size → (∀ b, b ∈ L → w'.heap[b]? = w.heap[b]?) → R w'
theorem stable_true : Stable [] (fun _ => True) := fun _ _ _ _ _ => trivial
theorem stable_and {L M : List Nat} {R S : World → Prop} (h1 : Stable L R) (h2 : Stable M S) : Stable (L ++ M) (fun u => R u ∧ S u) := fun w w' h hs hb =>
  ⟨h1 w w' h.1 hs (fun b hm => hb b (List.mem_append.2 (.inl hm))), h2 w w' h.2 hs (fun b hm => hb b (List.mem_append.2 (.inr hm)))⟩
theorem stable_rs (b : Nat) (c : Int) (f : Nat) : Stable [b] (fun u => RsAt u b c f) := fun _ _ h _ hb => (hb b (List.mem_singleton.2 rfl)).trans h
theorem stable_rq (b : Nat) (q : Rq) : Stable [b] (fun u => RqAt u b q) := fun _ _ h _ hb => (hb b (List.mem_singleton.2 rfl)).trans h
theorem stable_cf (b : Nat) (e : Int) (v : Value) : Stable [b] (fun u => GfAt u b e v) := fun _ _ h _ hb => (hb b (List.mem_singleton.2 rfl)).trans h
theorem stable_ld (F : List Nat) (v : Value) (s : Ls) : Stable F (fun u => LdAt F u v s) := fun _ _ h hs hb => h.stay hs hb
structure SgSt (w0 w : World) (L : List Nat) (R : World → Prop) (F : List Nat) (v : Value) (s : Ls) : Prop where
  lv : LvSt w0 w F v s
  st : Stable L R
  lt : ∀ b, b ∈ L → b < w.heap.size
  r : R w
  ap : ∀ b, b ∈ L → b ∉ F
section
variable {w0 w w' : World} {L : List Nat} {R : World → Prop} {F : List Nat} {v : Value} {s : Ls}
theorem SgSt.of (h : LvSt w0 w F v s) : SgSt w0 w [] (fun _ => True) F v s := ⟨h, stable_true, (fun b hb => by cases hb), trivial, (fun b hb => by cases hb)⟩
theorem SgSt.keep (h : SgSt w0 w L R F v s) (hb : Below w.heap.size w w') : SgSt w0 w' L R F v s :=
  ⟨h.lv.keep hb, h.st, fun b hm => Nat.lt_of_lt_of_le (h.lt b hm) hb.size, h.st w w' h.r hb.size (fun b hm => hb.block b (h.lt b hm)), h.ap⟩
theorem SgSt.to {s' : Ls} (h : SgSt w0 w L R F v s) (ht : LdTo F w w' v s') : ∃ F', SgSt w0 w' L R F' v s' := by
  obtain ⟨F', h1, h2, h3⟩ := ht
  refine ⟨F', ⟨h1, fun b hb => ?_, h.lv.bel.trans (h3.below h.lv.bel.size h.lv.new)⟩, h.st, fun b hm => Nat.lt_of_lt_of_le (h.lt b hm) h3.size, h.st w w' h.r h3.size (fun b hm => h3.block b (h.lt b hm) (h.ap b hm)), fun b hm hF => ?_⟩
  · rcases h2 b hb with h4 | h4
    · exact h.lv.new b h4
    · exact Nat.le_trans h.lv.bel.size h4
  · rcases h2 b hF with h4 | h4
    · exact h.ap b hm h4
    · exact Nat.lt_irrefl _ (Nat.lt_of_lt_of_le (h.lt b hm) h4)
theorem SgSt.add {M : List Nat} {S : World → Prop} (h : SgSt w0 w L R F v s) (hs : Stable M S) (hl : ∀ b, b ∈ M → b < w.heap.size) (hr : S w) (ha : ∀ b, b ∈ M → b ∉ F) : SgSt w0 w (M ++ L) (fun u => S u ∧ R u) F v s :=
  ⟨h.lv, stable_and hs h.st, fun b hm => (List.mem_append.1 hm).elim (hl b) (h.lt b), ⟨hr, h.r⟩, fun b hm => (List.mem_append.1 hm).elim (ha b) (h.ap b)⟩
theorem SgSt.fresh {S : World → Prop} (h : SgSt w0 w L R F v s) (hb : Below w.heap.size w w') (hs : Stable [w.heap.size] S) (hr : S w') (hl : w.heap.size < w'.heap.size) : SgSt w0 w' ([w.heap.size] ++ L) (fun u => S u ∧ R u) F v s :=
  (h.keep hb).add hs (fun b hm => by rw [List.mem_singleton.1 hm]; exact hl) hr (fun b hm hF => by
    rw [List.mem_singleton.1 hm] at hF
    exact Nat.lt_irrefl _ (h.lv.ld.lt _ hF))
theorem SgSt.res (h : SgSt w0 w L R F v s) {c : Int} {f : Nat} (hz : RsAt w' w.heap.size c f ∧ One w.heap.size (w.alloc (.cells #[.int .i64 0, .float .f64 0] 50)) w') : SgSt w0 w' ([w.heap.size] ++ L) (fun u => RsAt u w.heap.size c f ∧ R u) F v s :=
  h.fresh (hz.2.below ((Below.refl w.heap.size w).alloc (Nat.le_refl _) _) (Nat.le_refl _)) (stable_rs _ c f) hz.1 (lt_of_blk hz.1)
theorem SgSt.req (h : SgSt w0 w L R F v s) {q : Rq} (hz : RqAt w' w.heap.size q ∧ One w.heap.size (w.alloc (.cells #[.int .i64 0, .int .i64 0, .int .i64 0, .string ⟨#[]⟩, .float .f64 0, .int .i64 0] 56)) w') : SgSt w0 w' ([w.heap.size] ++ L) (fun u => RqAt u w.heap.size q ∧ R u) F v s :=
  h.fresh (hz.2.below ((Below.refl w.heap.size w).alloc (Nat.le_refl _) _) (Nat.le_refl _)) (stable_rq _ q) hz.1 (lt_of_blk hz.1)
/-- A copy stands beside. -/
theorem SgSt.copy {F2 : List Nat} {v2 : Value} {s2 : Ls} (h : SgSt w0 w L R F v s) (h2 : LdAt F2 w' v2 s2) (hn : ∀ b, b ∈ F2 → w.heap.size ≤ b) (hb : Below w.heap.size w w') : SgSt w0 w' (F2 ++ L) (fun u => LdAt F2 u v2 s2 ∧ R u) F v s :=
  (h.keep hb).add (stable_ld F2 v2 s2) h2.lt h2 (fun b hm hF => Nat.lt_irrefl _ (Nat.lt_of_lt_of_le (h.lv.ld.lt _ hF) (hn b hm)))
end
theorem sameS_refl (c : Int) (f : Nat) : sameS c f c f = true := by simp [sameS]
/-- A right request a second time. -/
theorem do_right {s : Ls} {q : Rq} (hr : rightB q = true) (hf : fullS s = false) : doE s q = 0 ∧ doS s q = ansS (moreS s) q ∧ doC s q = ansC s q ∧ doF s q = ansF s q := by
  have hN := right_null hr
  have h0 : doE s q = 0 := by simp [doE, fitR, hr, hf]
  refine ⟨h0, ?_, ?_, ?_⟩
  · rw [doS, if_pos h0, hN]; rfl
  · rw [doC, if_pos h0, hN]; rfl
  · rw [doF, if_pos h0, hN]; rfl
theorem do_full {s : Ls} {q : Rq} (hr : rightB q = true) (hf : fullS s = true) : doE s q = 18 ∧ doS s q = s := by
  have h0 : doE s q = 18 := by simp [doE, fitR, hr, hf]
  exact ⟨h0, by rw [doS, h0]; rfl⟩
theorem ans_again {s : Ls} (h : LOk s) {q : Rq} (hr : rightB q = true) :
    (q.st ≤ (((ansS s q).at (clN q)).1 : Int)) ∧ ansC (ansS s q) q = ansC s q ∧ ansF (ansS s q) q = ansF s q ∧
    (ansC s q = 7 ∨ ((((ansS s q).at (clN q)).1 : Int) = q.st ∧ ((ansS s q).at (clN q)).2.1 = ansC s q ∧ ((ansS s q).at (clN q)).2.2 = ansF s q)) := by
  have hst : 1 ≤ q.st := (right_fields hr).2.1.1
  have hc := (cl_lt hr).1
  by_cases h1 : q.st ≤ ((s.at (clN q)).1 : Int)
  · have e1 : ansS s q = s := by rw [ansS, if_pos h1]
    rw [e1]
    refine ⟨h1, rfl, rfl, ?_⟩
    by_cases h2 : q.st < ((s.at (clN q)).1 : Int)
    · exact .inl (by rw [ansC, if_pos h2])
    · have h3 : q.st = ((s.at (clN q)).1 : Int) := by omega
      exact .inr ⟨h3.symm, by rw [ansC, if_neg h2, if_pos h3], by rw [ansF, if_neg h2, if_pos h3]⟩
  · have e1 : (ansS s q).at (clN q) = (q.st.toNat, effC s q, effF s q) := by
      rw [ansS, if_neg h1]
      show (s.lst.set (clN q) (q.st.toNat, effC s q, effF s q)).getD (clN q) (0, 0, 0) = _
      rw [List.getD_eq_getElem?_getD, List.getElem?_set_self (by rw [h.eight]; exact hc)]
      rfl
    have e2 : ((q.st.toNat : Nat) : Int) = q.st := by omega
    have n1 : ¬ q.st < ((s.at (clN q)).1 : Int) := by omega
    have n2 : ¬ q.st = ((s.at (clN q)).1 : Int) := by omega
    have c1 : ansC s q = effC s q := by rw [ansC, if_neg n1, if_neg n2]
    have c2 : ansF s q = effF s q := by rw [ansF, if_neg n1, if_neg n2]
    have d1 : ansC (ansS s q) q = effC s q := by rw [ansC, e1]; simp [e2]
    have d2 : ansF (ansS s q) q = effF s q := by rw [ansF, e1]; simp [e2]
    rw [d1, d2, c1, c2, e1]
    exact ⟨by show q.st ≤ ((q.st.toNat : Nat) : Int); omega, rfl, rfl, .inr ⟨e2, rfl, rfl⟩⟩
theorem more_C (s : Ls) (q : Rq) : ansC (moreS s) q = ansC s q ∧ ansF (moreS s) q = ansF s q := ⟨rfl, rfl⟩
theorem do_again {s : Ls} (h : LOk s) {q : Rq} (hr : rightB q = true) (hf : fullS s = false) (hf2 : fullS (doS s q) = false) :
    doE (doS s q) q = 0 ∧ doS (doS s q) q = moreS (doS s q) ∧ doC (doS s q) q = doC s q ∧ doF (doS s q) q = doF s q ∧
    (doC s q = 7 ∨ ((((doS s q).at (clN q)).1 : Int) = q.st ∧ ((doS s q).at (clN q)).2.1 = doC s q ∧ ((doS s q).at (clN q)).2.2 = doF s q)) := by
  obtain ⟨a1, a2, a3, a4⟩ := do_right hr hf
  obtain ⟨b1, b2, b3, b4⟩ := do_right hr hf2
  rw [a3, a4, b3, b4, b2, b1, a2]
  obtain ⟨c1, c2, c3, c4⟩ := ans_again (more_ok h hf) hr
  obtain ⟨m1, m2⟩ := more_C s q
  rw [← m1, ← m2]
  exact ⟨rfl, by rw [ansS, if_pos (by rw [more_at]; exact c1)], c2, c3, c4⟩
end Go.Proofs.YtecidbdbdnnglaaGreat
