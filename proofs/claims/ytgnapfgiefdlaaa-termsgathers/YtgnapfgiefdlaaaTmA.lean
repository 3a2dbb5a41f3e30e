/- Maps keyed by signatures: what a book's map holds. -/
import Derived.Test.YtgnapfgiefdlaaaTeG
import Derived.Maps.OwnSet
import Derived.DeepKeys4
namespace Go.Proofs.Ytgnapfgiefdlaaa
open Go.RowKit Go.Maps

/-- A signature whose number and text fit. -/
def fitP (p : Int × ByteArray) : Prop := (-9223372036854775808 ≤ p.1 ∧ p.1 ≤ 9223372036854775807) ∧ p.2.size ≤ maxLen
def kL (p : Int × ByteArray) : Lit := .string (keyBytes [.int .i64 p.1, .string p.2.data.toList])
theorem sig_type : Try.prog.keyType 34 = true := by kernel_rfl
theorem sig_cells : Try.prog.cellsOf 34 = 2 := by kernel_rfl
theorem int_cells : Try.prog.cellsOf 3 = 1 := by kernel_rfl
theorem str_cells : Try.prog.cellsOf 9 = 1 := by kernel_rfl
theorem lits_int (d : Nat) (x : Int) (h : (Lit.int .i64 x).wf = true) : Try.prog.keyLits (d + 1) 3 [.int .i64 x] = some [.int .i64 x] := by
  simp [Program.keyLits, Try.underlying3, h]
theorem lits_str (d : Nat) (s : ByteArray) (h : s.size ≤ maxLen) : Try.prog.keyLits (d + 1) 9 [.string s] = some [.string s.data.toList] := by
  simp [Program.keyLits, Try.underlying9, h]
theorem lits_sig (d : Nat) (p : Int × ByteArray) (h : fitP p) : Try.prog.keyLits (d + 1 + 1) 34 [.int .i64 p.1, .string p.2] = some [.int .i64 p.1, .string p.2.data.toList] := by
  have hw : (Lit.int .i64 p.1).wf = true := by simp [Lit.wf, IntKind.min, IntKind.max, IntKind.bits, IntKind.signed]; exact h.1
  unfold Program.keyLits
  simp [Try.underlying34, sig_cells, int_cells, str_cells, lits_int d p.1 hw, lits_str d p.2 h.2]
theorem sig_key (p : Int × ByteArray) (h : fitP p) : keyOf Try.prog 34 (.agg #[.int .i64 p.1, .string p.2]) = some (kL p) := by
  have hf : (Value.agg #[.int .i64 p.1, .string p.2]).formed Try.prog 34 = true := by
    rw [Value.formed, Try.underlying34, sig_cells]; rfl
  obtain ⟨n, hn⟩ : ∃ n, Try.prog.types.size = n + 1 := Nat.exists_eq_succ_of_ne_zero (of_decide_eq_true (by kernel_rfl))
  rw [keyOf, Try.underlying34]
  show (if Try.prog.keyType 34 && (Value.agg #[.int .i64 p.1, .string p.2]).formed Try.prog 34 then (Try.prog.keyLits (Try.prog.types.size + 1) 34 [.int .i64 p.1, .string p.2]).map fun ls => Lit.string (keyBytes ls) else none) = _
  rw [sig_type, hf, hn, lits_sig n p h]
  rfl
theorem sig_keyed : Keyed Try.prog 34 := Keyed.of_law (deep_law_laid (by kernel_rfl) (m := 4) (by decide) (of_decide_eq_true (by kernel_rfl)) (by kernel_rfl) (by kernel_rfl))
theorem kL_inj {p q : Int × ByteArray} (hp : fitP p) (hq : fitP q) (h : kL p = kL q) : p = q := by
  have := sig_keyed.inj (sig_key p hp) (by rw [h]; exact sig_key q hq)
  simp at this
  exact Prod.ext this.1 this.2
theorem kL_key {p : Int × ByteArray} (hp : fitP p) : WideAt.IsKeyLit (kL p) := sig_keyed.key (sig_key p hp)
/-- The datum D holds u just at the signatures of L. -/
structure Holds (D u z : DataW Unit) (L : List (Int × ByteArray)) : Prop where
  at_ : ∀ p, fitP p → D.atKey (kL p) z = if stands L p then u else z
  has_ : ∀ p, fitP p → Maps.has D (kL p) = stands L p
  size : Maps.size D = L.length
  tidy : Tidy D
  fits : ∀ p, p ∈ L → fitP p
  nodup : L.Nodup
theorem Holds.empty (u z : DataW Unit) : Holds (.map []) u z [] :=
  ⟨fun _ _ => rfl, fun _ _ => rfl, rfl, tidy_empty, fun p hp => (by cases hp), List.nodup_nil⟩
theorem Holds.put {D u z : DataW Unit} {L : List (Int × ByteArray)} (h : Holds D u z L) (p : Int × ByteArray) (hp : fitP p) : Holds (D.put (kL p) u) u z (noted L [p]) := by
  have hst : ∀ q, stands (noted L [p]) q = (stands L q || decide (q = p)) := fun q => by
    rw [Bool.eq_iff_iff, stands_iff, noted_mem, Bool.or_eq_true_iff, stands_iff, decide_eq_true_iff, List.mem_singleton]
  refine ⟨fun q hq => ?_, fun q hq => ?_, ?_, h.tidy.put (kL_key hp) u, fun q hq => ?_, noted_nodup [p] L h.nodup⟩
  · by_cases e : q = p
    · subst e
      rw [atKey_put_same h.tidy.isMap (kL_key hp), hst, decide_eq_true rfl, Bool.or_true, if_pos rfl]
    · rw [atKey_put_other (fun e2 => e (kL_inj hq hp e2)), h.at_ q hq, hst, decide_eq_false e, Bool.or_false]
  · by_cases e : q = p
    · subst e
      rw [has_put_same h.tidy.isMap (kL_key hp), hst, decide_eq_true rfl, Bool.or_true]
    · rw [has_put_other (fun e2 => e (kL_inj hq hp e2)), h.has_ q hq, hst, decide_eq_false e, Bool.or_false]
  · rw [size_put h.tidy, h.has_ p hp, h.size]
    cases e : stands L p with
    | true => rw [noted_yes e]; rfl
    | false => rw [noted_no e, List.length_append]; rfl
  · rcases (noted_mem [p] q L).1 hq with h1 | h1
    · exact h.fits q h1
    · rw [List.mem_singleton.1 h1]; exact hp
/-- How many entries there are at most: just as many as there are. -/
theorem ownsMap_tight {w : World} {k : TypeId} {R : Value → Option (DataW Unit × List MemPlace)} {b n : Nat} {D : DataW Unit} (h : w.ownsMap Try.prog k R b n D) : w.ownsMap Try.prog k R b (Maps.size D) D := by
  obtain ⟨es, clock, hb, F, hs, rfl⟩ := h
  exact ⟨es, clock, hb, F, by simp [Maps.size, length_sorted], rfl⟩
theorem plainElem_bool_inv {e : TypeId} (he : Try.prog.underlying e = some .bool) {v : Value} {b : Bool} {ps : List MemPlace} (h : plainElem (H := Unit) Try.prog e v = some (.lit (.bool b), ps)) : v = .bool b := by
  unfold plainElem at h
  rw [he] at h
  cases v <;> simp at h
  rw [h.1]
/-- A look-up in a book's map of bools. -/
theorem look_sig {w : World} {T E : TypeId} (hT : Try.prog.underlying T = some (.map 34 E)) (hE : Try.prog.underlying E = some .bool) (hz : (zeroValue E).run Try.prog w = .ok (.bool false) w) {b n : Nat} {D : DataW Unit} {L : List (Int × ByteArray)}
    (hown : w.ownsMap Try.prog 34 (plainElem Try.prog E) b n D) (hH : Holds D (.lit (.bool true)) (.lit (.bool false)) L) (p : Int × ByteArray) (hp : fitP p) :
    (Instr.lookup T (.map (some b)) (.agg #[.int .i64 p.1, .string p.2]) false).run Try.prog w = .ok (.bool (stands L p)) w := by
  obtain ⟨v, ps, hrun, hR⟩ := hown.lookup sig_keyed hT hz (plainElem_bool hE false) (sig_key p hp)
  rw [hH.at_ p hp] at hR
  have : v = .bool (stands L p) := by
    cases e : stands L p with
    | true => rw [e, if_pos rfl] at hR; exact plainElem_bool_inv hE hR
    | false => rw [e, if_neg (by decide)] at hR; exact plainElem_bool_inv hE hR
  rw [hrun, this]
section
variable {o : Oper} {a : Act} {w : World} {K : Act → World → Prop} {Q : Exit → Act → World → Prop}
/-- One more in a book's map. -/
theorem owp_put_sig (m x y : Operand) (T E : TypeId) (hop : o.op = Op.mapUpdate T m x y) (hT : Try.prog.underlying T = some (.map 34 E)) (R : Value → Option (DataW Unit × List MemPlace)) (b n : Nat) (D : DataW Unit) (hm : a.eval m = .map (some b)) (hown : w.ownsMap Try.prog 34 R b n D) (hn : n < maxLen)
    (p : Int × ByteArray) (hp : fitP p) (val : Value) (hx : a.eval x = .agg #[.int .i64 p.1, .string p.2]) (hv : a.eval y = val) (d : DataW Unit) (hval : R val = some (d, []))
    (h : ∀ w', Hid (w'.ownsMap Try.prog 34 R b (Maps.size (D.put (kL p) d)) (D.put (kL p) d) ∧ w.grownBy w' (some b)) → K (a.put o.dst undef) w') : o.wp Try.prog a w K Q := by
  obtain ⟨w', hrun, r1, r2⟩ := hown.update sig_keyed hT hn (sig_key p hp) hval
  have := h w' ⟨ownsMap_tight r1, r2⟩
  unfold Oper.wp
  simp [execOp, hop, hm, hx, hv, hrun, Result.andThen]
  exact this
end
end Go.Proofs.Ytgnapfgiefdlaaa
