/- Texts laid together: TeG TmA TmB BaO TmC TeC LiA DeB LiB LiC LiD LiE SiA LiF LiG SiB LiH TrA CoS WtA WsA MwT TxA PwA. -/
import Derived.Test.YthjgnfeadagmeaaGreatOa3
import Derived.Maps.AppendAt
import Derived.Maps.OwnSet
import Derived.DeepKeys4
import Derived.Deep.QuietTactic
import Derived.BigQuiet
import Derived.Deep.RegionHeld3
import Derived.Test.YthjgnfeadagmeaaGreatOa1
import Derived.Test.YthjgnfeadagmeaaGreatOa2
import Derived.Deep.RegionLaw
import Derived.Shelf.Slices.SearchI
import Derived.Shelf.Slices.Delete
import Derived.Shelf.Spec.SlicesInsert
import Derived.Lib.RowBridge
/- The document's Noted. -/
namespace Go.Proofs.YthjgnfeadagmeaaGreat
open Go.RowKit

/-- A list with those that don't stand in it. -/
def noted (l : List (Int × ByteArray)) : List (Int × ByteArray) → List (Int × ByteArray)
  | [] => l
  | s :: ss => noted (if stands l s = true then l else l ++ [s]) ss
theorem noted_app (l a b : List (Int × ByteArray)) : noted l (a ++ b) = noted (noted l a) b := by
  induction a generalizing l with
  | nil => rfl
  | cons s a ih => exact ih _
theorem noted_yes {l : List (Int × ByteArray)} {s : Int × ByteArray} (h : stands l s = true) : noted l [s] = l := by simp [noted, h]
theorem noted_no {l : List (Int × ByteArray)} {s : Int × ByteArray} (h : stands l s = false) : noted l [s] = l ++ [s] := by simp [noted, h]
theorem noted_len (ss : List (Int × ByteArray)) : ∀ l, (noted l ss).length ≤ l.length + ss.length := by
  induction ss with
  | nil => intro l; exact Nat.le_refl _
  | cons s ss ih =>
    intro l
    refine Nat.le_trans (ih _) ?_
    split <;> simp <;> omega
theorem noted_mem (ss : List (Int × ByteArray)) (z : Int × ByteArray) : ∀ l, z ∈ noted l ss ↔ z ∈ l ∨ z ∈ ss := by
  induction ss with
  | nil => intro l; simp [noted]
  | cons s ss ih =>
    intro l
    rw [noted, ih, List.mem_cons]
    by_cases h : stands l s = true
    · rw [if_pos h]
      have := (stands_iff _ _).1 h
      constructor
      · rintro (h | h)
        · exact .inl h
        · exact .inr (.inr h)
      · rintro (h | rfl | h)
        · exact .inl h
        · exact .inl this
        · exact .inr h
    · rw [if_neg h, List.mem_append, List.mem_singleton]
      constructor
      · rintro ((h | h) | h)
        · exact .inl h
        · exact .inr (.inl h)
        · exact .inr (.inr h)
      · rintro (h | h | h)
        · exact .inl (.inl h)
        · exact .inl (.inr h)
        · exact .inr h
theorem noted_nodup (ss : List (Int × ByteArray)) : ∀ l, l.Nodup → (noted l ss).Nodup := by
  induction ss with
  | nil => intro l h; exact h
  | cons s ss ih =>
    intro l h
    rw [noted]
    split
    · exact ih _ h
    · next hs =>
      refine ih _ (List.nodup_append.2 ⟨h, by simp, fun x hx y hy e => ?_⟩)
      rw [List.mem_singleton.1 hy] at e
      rw [e] at hx
      exact hs ((stands_iff _ _).2 hx)
/-- The list as it grows: all other blocks stay. -/
structure NoSt (B : Nat) (w0 w : World) (v0 v : Value) (L : List (Int × ByteArray)) : Prop where
  own : w.ownsRow B 87 2 v L.length (pC L)
  grown : w0.grownBy w v0.ownBlock
  at_ : v.ownBlock = v0.ownBlock ∨ ∃ k, v.ownBlock = some k ∧ w0.heap.size ≤ k
theorem NoSt.keep {B : Nat} {w0 w w' : World} {v0 v : Value} {L : List (Int × ByteArray)} (h : NoSt B w0 w v0 v L) (hb : Below w.heap.size w w') : NoSt B w0 w' v0 v L :=
  ⟨ownsRow_keep h.own hb, ⟨hb.os.trans h.grown.os, hb.tape.trans h.grown.tape, hb.output.trans h.grown.output, Nat.le_trans h.grown.size hb.size, fun k hk hne => (hb.block k (Nat.lt_of_lt_of_le hk h.grown.size)).trans (h.grown.block k hk hne)⟩, h.at_⟩
theorem NoSt.pairs {B : Nat} {w0 w : World} {v0 v : Value} {L : List (Int × ByteArray)} (h : NoSt B w0 w v0 v L) : ∃ ad cap, v = .slice ad L.length cap ∧ PairsIn w ad L := own_pairsT h.own
theorem NoSt.append {B : Nat} {w0 w w' : World} {v0 v v' : Value} {L : List (Int × ByteArray)} {s : Int × ByteArray} (h : NoSt B w0 w v0 v L) (hown : w'.ownsRow B 87 2 v' (L.length + 1) (pC L ++ pC [s])) (hg : w.grownBy w' v.ownBlock) (ha : v'.ownBlock = v.ownBlock ∨ v'.ownBlock = some w.heap.size) : NoSt B w0 w' v0 v' (L ++ [s]) := by
  refine ⟨by rw [List.length_append, pC_app]; exact hown, ⟨hg.os.trans h.grown.os, hg.tape.trans h.grown.tape, hg.output.trans h.grown.output, Nat.le_trans h.grown.size hg.size, fun k hk hne => (hg.block k (Nat.lt_of_lt_of_le hk h.grown.size) ?_).trans (h.grown.block k hk hne)⟩, ?_⟩
  · intro e
    rcases h.at_ with h1 | ⟨j, h1, h2⟩
    · exact hne (e.trans h1)
    · rw [h1] at e
      cases e
      omega
  · rcases ha with e | e
    · rw [e]; exact h.at_
    · exact .inr ⟨_, e, h.grown.size⟩
theorem pairs_but {w w' : World} {b : Option Addr} {ss : List (Int × ByteArray)} {row : Option Nat} (hP : PairsIn w b ss) (hne : ∀ ad, b = some ad → ss ≠ [] → row ≠ some ad.block) (hg : w.grownBy w' row) : PairsIn w' b ss := by
  by_cases h0 : ss = []
  · exact .inl h0
  rcases hP with h | ⟨g, o, rfl, hlt, hc⟩
  · exact .inl h
  · refine .inr ⟨g, o, rfl, Nat.lt_of_lt_of_le hlt hg.size, fun j p hj => ?_⟩
    have hh := hg.block g hlt (fun e => hne _ rfl h0 e.symm)
    have := hc j p hj
    exact ⟨(World.cell?_of_block (a := ⟨g, _, none⟩) hh).trans this.1, (World.cell?_of_block (a := ⟨g, _, none⟩) hh).trans this.2⟩
set_option maxRecDepth 100000 in
set_option maxHeartbeats 3200000 in
theorem wnoted_any (B : Nat) (v : Value) (n : Nat) (l : List (Int × ByteArray)) (hn : l.length = n) (b : Option Addr) (m cp : Nat) (ss : List (Int × ByteArray)) (hsn : ss.length = m) (hm : (n + m) * 24 ≤ 140737488355328) (w : World) (hB : B ≤ w.heap.size) (hO : w.ownsRow B 87 2 v n (pC l)) (hP : PairsIn w b ss) (hne : ∀ ad, b = some ad → ss ≠ [] → v.ownBlock ≠ some ad.block) :
    Calls Tryz.prog 25 #[v, .slice b m cp] w fun e w' => ∃ v', e = .returned v' ∧ NoSt B w w' v v' (noted l ss) := by
  have hm2 : (m : Int) ≤ 9223372036854775806 := by omega
  have HO : Hid (NoSt B w w v v l) := hid ⟨by rw [hn]; exact hO, ⟨rfl, rfl, rfl, Nat.le_refl _, fun _ _ _ => rfl⟩, .inl rfl⟩
  have HP := hid (And.intro hP (And.intro hne hsn))
  have HM := hid (And.intro hm hn)
  have HB := hid hB
  clear hO hP hne hm hB
  go_enter Tryz.func25, Tryz.ntmps25
  go_wp2
  obtain ⟨i0, hi0, hz0, hz1, hz2⟩ := info_parts Tryz.info87
  go_loopw [0, 5] (fun v1 i wr => ∃ j : Nat, j ≤ m ∧ i = .int .i64 (j : Int) ∧ NoSt B w wr v v1 (noted l (ss.take j)))
    (fun _ i _ => ((m : Int) - intOf i).toNat)
  case atStart => exact ⟨0, by omega, rfl, HO.out⟩
  case round =>
    obtain ⟨j, hj, rfl, hN⟩ := hrel
    have HN := hid hN
    clear hN
    by_cases hjn : j = m
    · have hj1 : ¬ ((j : Int) < (m : Int)) := by omega
      have HE : Hid (ss.take j = ss) := hid (List.take_of_length_le (by rw [HP.out.2.2]; omega))
      clear hj hjn
      go_wp2
      go_ret
      exact ⟨_, rfl, by rw [HE.out] at HN; exact HN.out⟩
    · have hj1 : (j : Int) < (m : Int) := by omega
      have hj0 : (0 : Int) ≤ (j : Int) := Int.natCast_nonneg _
      have hjl : j < ss.length := by rw [HP.out.2.2]; omega
      have htk : ss.take (j + 1) = ss.take j ++ [(idOf ss j, rtOf ss j)] := by rw [List.take_add_one, getP_some hjl]; rfl
      have hap := noted_app l (ss.take j) [(idOf ss j, rtOf ss j)]
      rw [← htk] at hap
      have hln : ((noted l (ss.take j)).length + 1) * 24 ≤ 140737488355328 := by
        have := noted_len (ss.take j) l
        have := HM.out
        rw [List.length_take] at *
        omega
      have hPw := pairs_but HP.out.1 HP.out.2.1 HN.out.grown
      obtain ⟨g1, o1, rfl, hg1, x1, y1⟩ := hPw.at j _ (getP_some hjl)
      obtain ⟨L, eL⟩ : ∃ L, L = noted l (ss.take j) := ⟨_, rfl⟩
      rw [← eL] at HN hap hln
      obtain ⟨x, ex⟩ : ∃ x, x = idOf ss j := ⟨_, rfl⟩
      obtain ⟨y, ey⟩ : ∃ y, y = rtOf ss j := ⟨_, rfl⟩
      rw [← ex, ← ey] at hap
      rw [← ex] at x1
      rw [← ey] at y1
      obtain ⟨ao, co, hu, hq⟩ := HN.out.pairs
      subst hu
      have HS : Hid (∀ u : World, PairsIn u ao L → Calls Tryz.prog 44 #[.slice ao L.length co, .agg #[.int .i64 x, .string y]] u fun e w' => e = .returned (.bool (stands L (x, y))) ∧ Below u.heap.size u w') := hid (fun u hu => wstands_any ao L.length co L rfl (by unfold maxLen; omega) x y u hu)
      have HQ := hid hq
      have HC := hid (And.intro hg1 (And.intro x1 y1))
      have HJ := hid (And.intro hj hjn)
      have HA := hid hap
      have HL := hid hln
      clear hq hg1 hj hjn hap hln htk hPw eL ex ey hjl
      cases h1 : stands L (x, y) with
      | true =>
        rw [h1] at HS
        have HR : Hid (noted l (ss.take (j + 1)) = L) := hid (by rw [HA.out, noted_yes h1])
        clear h1
        go_wp2_with (go_at_call 44; refine (HS.out _ HQ.out).mono ?_; rintro e w2 ⟨rfl, hb2⟩; have H2 := hid (HN.out.keep hb2); clear hb2)
        go_roundw
        case rel => exact ⟨j + 1, by have := HJ.out; omega, by go_num, by rw [HR.out]; exact H2.out⟩
        case measure => simp [intOf]; omega
      | false =>
        rw [h1] at HS
        have HR : Hid (noted l (ss.take (j + 1)) = L ++ [(x, y)]) := hid (by rw [HA.out, noted_no h1])
        clear h1
        go_wp2_with (first
          | (go_at_call 44; refine (HS.out _ HQ.out).mono ?_; rintro e w2 ⟨rfl, hb2⟩; have H2 := hid (HN.out.keep hb2); have p0 := (hb2.cell (p := ⟨g1, _, none⟩) HC.out.1).trans HC.out.2.1; have p1 := (hb2.cell (p := ⟨g1, _, none⟩) HC.out.1).trans HC.out.2.2; clear hb2)
          | (at_builtin; refine wpList_append_own_at _ rfl _ _ 44 rfl B 87 i0 (.agg #[.int .i64 0, .string ⟨#[]⟩]) 2 24 Tryz.underlying44 hi0 hz0 hz1 hz2 rfl (by decide) _ L.length _ rfl (by exact H2.out.own.alloc _) ⟨_, 0, none⟩ 1 1 (pC [(x, y)]) rfl rfl (World.news_of_block (t := 87) (fr := (0, 0)) (heap_alloc_last _ _)) (by simp [pC, Value.oneCell']) (by have := HL.out; unfold maxLen; omega) (by have := HL.out; omega) (by have := H2.out.grown.size; have := HB.out; simp; omega) ?_; intro v8 w8 hown8 hgrow8 hnil8 hat8
             have H8 : Hid (NoSt B w w8 v v8 (L ++ [(x, y)])) := hid ((H2.out.keep ((Below.refl _ _).alloc (Nat.le_refl _) _)).append hown8 hgrow8 hat8)
             clear hown8 hgrow8 hnil8 hat8))
        go_roundw
        case rel => exact ⟨j + 1, by have := HJ.out; omega, by go_num, by rw [HR.out]; exact H8.out⟩
        case measure => simp [intOf]; omega
end Go.Proofs.YthjgnfeadagmeaaGreat

/- Maps keyed by signatures: what a book's map holds. -/
namespace Go.Proofs.YthjgnfeadagmeaaGreat
open Go.RowKit Go.Maps

/-- A signature whose number and text fit. -/
def fitP (p : Int × ByteArray) : Prop := (-9223372036854775808 ≤ p.1 ∧ p.1 ≤ 9223372036854775807) ∧ p.2.size ≤ maxLen
def kL (p : Int × ByteArray) : Lit := .string (keyBytes [.int .i64 p.1, .string p.2.data.toList])
theorem sig_type : Tryz.prog.keyType 87 = true := by kernel_rfl
theorem sig_cells : Tryz.prog.cellsOf 87 = 2 := by kernel_rfl
theorem int_cells : Tryz.prog.cellsOf 3 = 1 := by kernel_rfl
theorem str_cells : Tryz.prog.cellsOf 9 = 1 := by kernel_rfl
theorem lits_int (d : Nat) (x : Int) (h : (Lit.int .i64 x).wf = true) : Tryz.prog.keyLits (d + 1) 3 [.int .i64 x] = some [.int .i64 x] := by
  simp [Program.keyLits, Tryz.underlying3, h]
theorem lits_str (d : Nat) (s : ByteArray) (h : s.size ≤ maxLen) : Tryz.prog.keyLits (d + 1) 9 [.string s] = some [.string s.data.toList] := by
  simp [Program.keyLits, Tryz.underlying9, h]
theorem lits_sig (d : Nat) (p : Int × ByteArray) (h : fitP p) : Tryz.prog.keyLits (d + 1 + 1) 87 [.int .i64 p.1, .string p.2] = some [.int .i64 p.1, .string p.2.data.toList] := by
  have hw : (Lit.int .i64 p.1).wf = true := by simp [Lit.wf, IntKind.min, IntKind.max, IntKind.bits, IntKind.signed]; exact h.1
  unfold Program.keyLits
  simp [Tryz.underlying87, sig_cells, int_cells, str_cells, lits_int d p.1 hw, lits_str d p.2 h.2]
theorem sig_key (p : Int × ByteArray) (h : fitP p) : keyOf Tryz.prog 87 (.agg #[.int .i64 p.1, .string p.2]) = some (kL p) := by
  have hf : (Value.agg #[.int .i64 p.1, .string p.2]).formed Tryz.prog 87 = true := by
    rw [Value.formed, Tryz.underlying87, sig_cells]; rfl
  obtain ⟨n, hn⟩ : ∃ n, Tryz.prog.types.size = n + 1 := Nat.exists_eq_succ_of_ne_zero (of_decide_eq_true (by kernel_rfl))
  rw [keyOf, Tryz.underlying87]
  show (if Tryz.prog.keyType 87 && (Value.agg #[.int .i64 p.1, .string p.2]).formed Tryz.prog 87 then (Tryz.prog.keyLits (Tryz.prog.types.size + 1) 87 [.int .i64 p.1, .string p.2]).map fun ls => Lit.string (keyBytes ls) else none) = _
  rw [sig_type, hf, hn, lits_sig n p h]
  rfl
theorem sig_keyed : Keyed Tryz.prog 87 := Keyed.of_law (deep_law_laid (by kernel_rfl) (m := 4) (by decide) (of_decide_eq_true (by kernel_rfl)) (by kernel_rfl) (by kernel_rfl))
theorem kL_inj {p q : Int × ByteArray} (hp : fitP p) (hq : fitP q) (h : kL p = kL q) : p = q := by
  have := sig_keyed.inj (sig_key p hp) (by rw [h]; exact sig_key q hq)
  simp at this
  exact Prod.ext this.1 this.2
theorem kL_key {p : Int × ByteArray} (hp : fitP p) : WideAt.IsKeyLit (kL p) := sig_keyed.key (sig_key p hp)
/-- The datum D holds u just at the signatures of L. -/
structure Holds (D u z : DataW Unit) (L : List (Int × ByteArray)) : Prop where
  at_ : ∀ p, fitP p → D.atKey (kL p) z = if stands L p then u else z
  has_ : ∀ p, fitP p → Maps.has D (kL p) = stands L p
  size : Maps.size D = L.length
  tidy : Tidy D
  fits : ∀ p, p ∈ L → fitP p
  nodup : L.Nodup
theorem Holds.empty (u z : DataW Unit) : Holds (.map []) u z [] :=
  ⟨fun _ _ => rfl, fun _ _ => rfl, rfl, tidy_empty, fun p hp => (by cases hp), List.nodup_nil⟩
theorem Holds.put {D u z : DataW Unit} {L : List (Int × ByteArray)} (h : Holds D u z L) (p : Int × ByteArray) (hp : fitP p) : Holds (D.put (kL p) u) u z (noted L [p]) := by
  have hst : ∀ q, stands (noted L [p]) q = (stands L q || decide (q = p)) := fun q => by
    rw [Bool.eq_iff_iff, stands_iff, noted_mem, Bool.or_eq_true_iff, stands_iff, decide_eq_true_iff, List.mem_singleton]
  refine ⟨fun q hq => ?_, fun q hq => ?_, ?_, h.tidy.put (kL_key hp) u, fun q hq => ?_, noted_nodup [p] L h.nodup⟩
  · by_cases e : q = p
    · subst e
      rw [atKey_put_same h.tidy.isMap (kL_key hp), hst, decide_eq_true rfl, Bool.or_true, if_pos rfl]
    · rw [atKey_put_other (fun e2 => e (kL_inj hq hp e2)), h.at_ q hq, hst, decide_eq_false e, Bool.or_false]
  · by_cases e : q = p
    · subst e
      rw [has_put_same h.tidy.isMap (kL_key hp), hst, decide_eq_true rfl, Bool.or_true]
    · rw [has_put_other (fun e2 => e (kL_inj hq hp e2)), h.has_ q hq, hst, decide_eq_false e, Bool.or_false]
  · rw [size_put h.tidy, h.has_ p hp, h.size]
    cases e : stands L p with
    | true => rw [noted_yes e]; rfl
    | false => rw [noted_no e, List.length_append]; rfl
  · rcases (noted_mem [p] q L).1 hq with h1 | h1
    · exact h.fits q h1
    · rw [List.mem_singleton.1 h1]; exact hp
/-- How many entries there are at most: just as many as there are. -/
theorem ownsMap_tight {w : World} {k : TypeId} {R : Value → Option (DataW Unit × List MemPlace)} {b n : Nat} {D : DataW Unit} (h : w.ownsMap Tryz.prog k R b n D) : w.ownsMap Tryz.prog k R b (Maps.size D) D := by
  obtain ⟨es, clock, hb, F, hs, rfl⟩ := h
  exact ⟨es, clock, hb, F, by simp [Maps.size, length_sorted], rfl⟩
theorem plainElem_bool_inv {e : TypeId} (he : Tryz.prog.underlying e = some .bool) {v : Value} {b : Bool} {ps : List MemPlace} (h : plainElem (H := Unit) Tryz.prog e v = some (.lit (.bool b), ps)) : v = .bool b := by
  unfold plainElem at h
  rw [he] at h
  cases v <;> simp at h
  rw [h.1]
/-- A look-up in a book's map of bools. -/
theorem look_sig {w : World} {T E : TypeId} (hT : Tryz.prog.underlying T = some (.map 87 E)) (hE : Tryz.prog.underlying E = some .bool) (hz : (zeroValue E).run Tryz.prog w = .ok (.bool false) w) {b n : Nat} {D : DataW Unit} {L : List (Int × ByteArray)}
    (hown : w.ownsMap Tryz.prog 87 (plainElem Tryz.prog E) b n D) (hH : Holds D (.lit (.bool true)) (.lit (.bool false)) L) (p : Int × ByteArray) (hp : fitP p) :
    (Instr.lookup T (.map (some b)) (.agg #[.int .i64 p.1, .string p.2]) false).run Tryz.prog w = .ok (.bool (stands L p)) w := by
  obtain ⟨v, ps, hrun, hR⟩ := hown.lookup sig_keyed hT hz (plainElem_bool hE false) (sig_key p hp)
  rw [hH.at_ p hp] at hR
  have : v = .bool (stands L p) := by
    cases e : stands L p with
    | true => rw [e, if_pos rfl] at hR; exact plainElem_bool_inv hE hR
    | false => rw [e, if_neg (by decide)] at hR; exact plainElem_bool_inv hE hR
  rw [hrun, this]
section
variable {o : Oper} {a : Act} {w : World} {K : Act → World → Prop} {Q : Exit → Act → World → Prop}
/-- One more in a book's map. -/
theorem owp_put_sig (m x y : Operand) (T E : TypeId) (hop : o.op = Op.mapUpdate T m x y) (hT : Tryz.prog.underlying T = some (.map 87 E)) (R : Value → Option (DataW Unit × List MemPlace)) (b n : Nat) (D : DataW Unit) (hm : a.eval m = .map (some b)) (hown : w.ownsMap Tryz.prog 87 R b n D) (hn : n < maxLen)
    (p : Int × ByteArray) (hp : fitP p) (val : Value) (hx : a.eval x = .agg #[.int .i64 p.1, .string p.2]) (hv : a.eval y = val) (d : DataW Unit) (hval : R val = some (d, []))
    (h : ∀ w', Hid (w'.ownsMap Tryz.prog 87 R b (Maps.size (D.put (kL p) d)) (D.put (kL p) d) ∧ w.grownBy w' (some b)) → K (a.put o.dst undef) w') : o.wp Tryz.prog a w K Q := by
  obtain ⟨w', hrun, r1, r2⟩ := hown.update sig_keyed hT hn (sig_key p hp) hval
  have := h w' ⟨ownsMap_tight r1, r2⟩
  unfold Oper.wp
  simp [execOp, hop, hm, hx, hv, hrun, Result.andThen]
  exact this
end
end Go.Proofs.YthjgnfeadagmeaaGreat

/- The program's book: a struct with a map keyed by signatures, made when something is noted. -/
namespace Go.Proofs.YthjgnfeadagmeaaGreat
open Go.RowKit Go.Maps

section
variable {P : Program} {ops : Array Oper} {o : Oper} {a : Act} {w : World} {Q : Exit → Act → World → Prop} {K : Act → World → Prop}
theorem wpOp_h {i : Nat} (hi : ops[i]? = some o) (hw : Region.wanted o (yielded ops a.tmps) = true) (h : ∀ K' : Act → World → Prop, (∀ a w, K a w → K' a w) → o.wp P a w K' Q) : wpOp P ops Q i K a w := by
  unfold Go.wpOp
  simp only [hi, hw, if_true]
  exact .inl (h _ (fun _ _ h => h))
end
theorem map_type : Tryz.prog.underlying 105 = some (.map 87 117) := by kernel_rfl
theorem unit_zero (w : World) : (zeroValue 117).run Tryz.prog w = .ok (.agg #[]) w := by kernel_rfl
/-- The book at v: F its blocks, L what stands in it. -/
structure BkAt (F : List Nat) (w : World) (v : Value) (L : List (Int × ByteArray)) : Prop where
  bk : ∃ g, v = .pointer (some ⟨g, 0, none⟩) ∧ ((F = [g] ∧ w.heap[g]? = some (.cells #[.map none] 107 (0, 0)) ∧ L = []) ∨
    ∃ m D, F = [g, m] ∧ g ≠ m ∧ w.heap[g]? = some (.cells #[.map (some m)] 107 (0, 0)) ∧ w.ownsMap Tryz.prog 87 unitElem m L.length D ∧ Holds D (.agg []) (.agg []) L)
theorem BkAt.form {F : List Nat} {w : World} {v : Value} {L : List (Int × ByteArray)} (h : BkAt F w v L) : ∃ g, v = .pointer (some ⟨g, 0, none⟩) := by
  obtain ⟨g, h1, _⟩ := h.bk
  exact ⟨g, h1⟩
theorem BkAt.lt {F : List Nat} {w : World} {v : Value} {L : List (Int × ByteArray)} (h : BkAt F w v L) : ∀ b, b ∈ F → b < w.heap.size := by
  obtain ⟨g, _, ⟨rfl, hg, _⟩ | ⟨m, D, rfl, _, hg, hm, _⟩⟩ := h.bk
  · intro b hb
    rw [List.mem_singleton.1 hb]
    exact lt_of_blk hg
  · intro b hb
    simp at hb
    rcases hb with rfl | rfl
    · exact lt_of_blk hg
    · exact hm.lt
theorem BkAt.nodup {F : List Nat} {w : World} {v : Value} {L : List (Int × ByteArray)} (h : BkAt F w v L) : L.Nodup := by
  obtain ⟨g, _, ⟨_, _, rfl⟩ | ⟨m, D, _, _, _, _, hH⟩⟩ := h.bk
  · exact List.nodup_nil
  · exact hH.nodup
theorem BkAt.keep {F : List Nat} {w w' : World} {v : Value} {L : List (Int × ByteArray)} (h : BkAt F w v L) (_ : w.heap.size ≤ w'.heap.size) (hb : ∀ b, b ∈ F → w'.heap[b]? = w.heap[b]?) : BkAt F w' v L := by
  obtain ⟨g, h1, ⟨rfl, hg, h0⟩ | ⟨m, D, rfl, hne, hg, hm, hH⟩⟩ := h.bk
  · exact ⟨g, h1, .inl ⟨rfl, (hb g (by simp)).trans hg, h0⟩⟩
  · refine ⟨g, h1, .inr ⟨m, D, rfl, hne, (hb g (by simp)).trans hg, ?_, hH⟩⟩
    obtain ⟨es, clock, hb2, r⟩ := hm
    exact ⟨es, clock, (hb m (by simp)).trans hb2, r⟩
theorem BkAt.of_below {F : List Nat} {w w' : World} {v : Value} {L : List (Int × ByteArray)} (h : BkAt F w v L) (hb : Below w.heap.size w w') : BkAt F w' v L :=
  h.keep hb.size (fun b hF => hb.block b (h.lt b hF))
/-- The book's one field, and what a look-up in it answers. -/
theorem BkAt.look {F : List Nat} {w : World} {g : Nat} {L : List (Int × ByteArray)} (h : BkAt F w (.pointer (some ⟨g, 0, none⟩)) L) : ∃ mo, w.cell? ⟨g, 0, none⟩ = some (.map mo) ∧
    (∀ p, fitP p → (Instr.lookup 105 (.map mo) (.agg #[.int .i64 p.1, .string p.2]) true).run Tryz.prog w = .ok (.tuple #[.agg #[], .bool (stands L p)]) w) := by
  obtain ⟨g', h1, ⟨_, hg, rfl⟩ | ⟨m, D, _, _, hg, hm, hH⟩⟩ := h.bk
  · cases h1
    refine ⟨none, cell_at (L := [.map none]) hg 0 _ rfl, fun p hp => ?_⟩
    exact Maps.look_nil true sig_keyed map_type (unit_zero w) (sig_key p hp)
  · cases h1
    refine ⟨some m, cell_at (L := [.map (some m)]) hg 0 _ rfl, fun p hp => ?_⟩
    obtain ⟨v, ps, hrun, hR⟩ := hm.look_ok sig_keyed map_type (unit_zero w) unitElem_mk (sig_key p hp)
    obtain ⟨rfl, _⟩ := unitElem_inv hR
    rw [hrun, hH.has_ p hp]
set_option maxHeartbeats 1600000 in
theorem tnew_any (w : World) : Calls Tryz.prog 31 #[] w fun e w' => ∃ v F, e = .returned v ∧ BkAt F w' v [] ∧ (∀ b, b ∈ F → w.heap.size ≤ b) ∧ Below w.heap.size w w' := by
  go_enter Tryz.func31, Tryz.ntmps31
  go_wp2
  go_ret
  refine ⟨_, [w.heap.size], rfl, ⟨w.heap.size, rfl, .inl ⟨rfl, heap_alloc_last w _, rfl⟩⟩, fun b hb => ?_, (Below.refl _ _).alloc (Nat.le_refl _) _⟩
  rw [List.mem_singleton.1 hb]
  exact Nat.le_refl _
set_option maxRecDepth 100000 in
set_option maxHeartbeats 1600000 in
theorem thas_any (F : List Nat) (v : Value) (L : List (Int × ByteArray)) (x : Int) (t : ByteArray) (hf : fitP (x, t)) (w : World) (hB : BkAt F w v L) :
    Calls Tryz.prog 71 #[v, .agg #[.int .i64 x, .string t]] w fun e w' => e = .returned (.bool (stands L (x, t))) ∧ Below w.heap.size w w' := by
  obtain ⟨g, rfl⟩ := hB.form
  obtain ⟨wz, ez⟩ : ∃ wz, wz = w.alloc (.cells #[.int .i64 x, .string t] 87) := ⟨_, rfl⟩
  have hBz : BkAt F wz (.pointer (some ⟨g, 0, none⟩)) L := hB.of_below (by rw [ez]; exact (Below.refl _ _).alloc (Nat.le_refl _) _)
  have hb0 : wz.heap[w.heap.size]? = some (.cells #[.int .i64 x, .string t] 87 (0, 0)) := by rw [ez]; exact heap_alloc_last w _
  obtain ⟨mo, hmo, _⟩ := hBz.look
  have hgl : g < wz.heap.size := (by obtain ⟨g', h1, ⟨_, hg, _⟩ | ⟨m, D, _, _, hg, _⟩⟩ := hBz.bk <;> (cases h1; exact lt_of_blk hg))
  have HS : Hid (∀ ww : World, Below wz.heap.size wz ww → ww.cell? ⟨g, 0, none⟩ = some (.map mo) ∧ ww.cell? ⟨w.heap.size, 0, none⟩ = some (.int .i64 x) ∧ ww.cell? ⟨w.heap.size, 1, none⟩ = some (.string t) ∧ (Instr.lookup 105 (.map mo) (.agg #[.int .i64 x, .string t]) true).run Tryz.prog ww = .ok (.tuple #[.agg #[], .bool (stands L (x, t))]) ww) := hid (fun ww hw => by
    have hc := (hw.cell (p := ⟨g, 0, none⟩) hgl).trans hmo
    obtain ⟨mo2, hmo2, hl⟩ := (hBz.of_below hw).look
    rw [hc] at hmo2
    cases hmo2
    exact ⟨hc, (cell_two ((hw.block _ (lt_of_blk hb0)).trans hb0)).1, (cell_two ((hw.block _ (lt_of_blk hb0)).trans hb0)).2, hl (x, t) hf⟩)
  generalize stands L (x, t) = B at HS ⊢
  have HE := hid ez
  have HB := hid (show Below w.heap.size w wz by rw [ez]; exact (Below.refl _ _).alloc (Nat.le_refl _) _)
  clear hmo hgl hBz hb0 hf hB ez
  go_enter Tryz.func71, Tryz.ntmps71
  go_wp2
  rw [← HE.out]
  refine wp_region_held (S := fun ww => Below wz.heap.size wz ww) (by kernel_rfl) ?_
  try (change wpAnyH _ _ _ _ _ _ _ _ (World.drew _))
  refine wpAnyH_take (i := 0) (v := ?v1) rfl (by kernel_rfl) (by kernel_rfl) (by kernel_rfl) (fun _ _ _ h => h) (Or.inl ⟨by rfl, ?hy1⟩) (Below.refl _ _).drew ?rest1
  case hy1 => (intro ww _; go_simp; try with_reducible rfl)
  go_simp
  refine wpAnyH_take (i := 1) (v := ?v2) rfl (by kernel_rfl) (by kernel_rfl) (by kernel_rfl) (fun _ _ _ h => h) (Or.inl ⟨by rfl, ?hy2⟩) (Below.refl _ _).drew ?rest2
  case hy2 => (intro ww _; go_simp; try with_reducible rfl)
  go_simp
  refine wpAnyH_take (i := 2) (v := ?v3) rfl (by kernel_rfl) (by kernel_rfl) (by kernel_rfl) (fun _ _ _ h => h) (Or.inl ⟨by rfl, ?hy3⟩) (Below.refl _ _).drew ?rest3
  case hy3 => (intro ww _; go_simp; try with_reducible rfl)
  go_simp
  refine wpAnyH_take (i := 3) (v := ?v4) rfl (by kernel_rfl) (by kernel_rfl) (by kernel_rfl) (fun _ _ _ h => h) (Or.inl ⟨by rfl, ?hy4⟩) (Below.refl _ _).drew ?rest4
  case hy4 => (intro ww hS; obtain ⟨y0, y1, y2, y3⟩ := HS.out ww hS; go_simp; try with_reducible rfl)
  go_simp
  refine wpAnyH_take (i := 4) (v := ?v5) rfl (by kernel_rfl) (by kernel_rfl) (by kernel_rfl) (fun _ _ _ h => h) (Or.inl ⟨by rfl, ?hy5⟩) (Below.refl _ _).drew ?rest5
  case hy5 => (intro ww hS; obtain ⟨y0, y1, y2, y3⟩ := HS.out ww hS; go_simp; try with_reducible rfl)
  go_simp
  refine wpAnyH_take (i := 5) (v := ?v6) rfl (by kernel_rfl) (by kernel_rfl) (by kernel_rfl) (fun _ _ _ h => h) (Or.inl ⟨by rfl, ?hy6⟩) (Below.refl _ _).drew ?rest6
  case hy6 => (intro ww hS; obtain ⟨y0, y1, y2, y3⟩ := HS.out ww hS; go_simp; try with_reducible rfl)
  go_simp
  refine wpAnyH_take (i := 6) (v := ?v7) rfl (by kernel_rfl) (by kernel_rfl) (by kernel_rfl) (fun _ _ _ h => h) (Or.inl ⟨by rfl, ?hy7⟩) (Below.refl _ _).drew ?rest7
  case hy7 => (intro ww _; go_simp; try with_reducible rfl)
  go_simp
  refine wpAnyH_take (i := 7) (v := ?v8) rfl (by kernel_rfl) (by kernel_rfl) (by kernel_rfl) (fun _ _ _ h => h) (Or.inl ⟨by rfl, ?hy8⟩) (Below.refl _ _).drew ?rest8
  case hy8 => (intro ww _; go_simp; try with_reducible rfl)
  go_simp
  refine wpAnyH_take (i := 8) (v := ?v9) rfl (by kernel_rfl) (by kernel_rfl) (by kernel_rfl) (fun _ _ _ h => h) (Or.inl ⟨by rfl, ?hy9⟩) (Below.refl _ _).drew ?rest9
  case hy9 => (intro ww _; go_simp; try with_reducible rfl)
  go_simp
  refine wpAnyH_all (rs := [9]) (by kernel_rfl) (by simp) ?_
  intro i hi
  obtain rfl := List.mem_singleton.1 hi
  clear hi
  refine wpOp_h rfl (by rfl) (fun K hK => ?_)
  go_simp
  refine hK _ _ ⟨((Below.refl _ _).drew).alloc (Nat.le_refl _) _, ?_⟩
  clear hK K
  go_simp
  refine wpAnyH_all (rs := [10]) (by kernel_rfl) (by simp) ?_
  intro i hi
  obtain rfl := List.mem_singleton.1 hi
  clear hi
  refine wpOp_h rfl (by rfl) (fun K hK => ?_)
  go_simp
  refine hK _ _ ⟨((Below.refl _ _).drew).alloc (Nat.le_refl _) _, ?_⟩
  clear hK K
  go_simp
  refine wpAnyH_all (rs := [11]) (by kernel_rfl) (by simp) ?_
  intro i hi
  obtain rfl := List.mem_singleton.1 hi
  clear hi
  refine wpOp_h rfl (by rfl) (fun K hK => ?_)
  go_simp
  refine hK _ _ ⟨((Below.refl _ _).drew).alloc (Nat.le_refl _) _, ?_⟩
  clear hK K
  go_simp
  refine wpAnyH_done (by kernel_rfl) ?_ _
  go_simp
  go_wp2
  go_ret
  exact ⟨rfl, HB.out.trans ((((Below.refl _ _).drew).alloc (Nat.le_refl _) _).mono HB.out.size)⟩
end Go.Proofs.YthjgnfeadagmeaaGreat

/- What all families of texts share: all blocks but a few stay. -/
namespace Go.Proofs.YthjgnfeadagmeaaGreat
open Go.RowKit

/-- All blocks but those named stay. -/
structure Out (F : List Nat) (w w' : World) : Prop where
  os : w'.os = w.os
  tape : w'.tape = w.tape
  output : w'.output = w.output
  size : w.heap.size ≤ w'.heap.size
  block : ∀ k, k < w.heap.size → k ∉ F → w'.heap[k]? = w.heap[k]?
theorem Out.refl (F : List Nat) (w : World) : Out F w w := ⟨rfl, rfl, rfl, Nat.le_refl _, fun _ _ _ => rfl⟩
theorem Out.then {F : List Nat} {w w1 w2 : World} {m : Nat} (h : Out F w w1) (hg : w1.grownBy w2 (some m)) (hm : m ∈ F ∨ w.heap.size ≤ m) : Out F w w2 :=
  ⟨hg.os.trans h.os, hg.tape.trans h.tape, hg.output.trans h.output, Nat.le_trans h.size hg.size, fun k hk hF => (hg.block k (Nat.lt_of_lt_of_le hk h.size) (fun e => by
    cases e
    rcases hm with hm | hm
    · exact hF hm
    · omega)).trans (h.block k hk hF)⟩
theorem Out.alloc {F : List Nat} {w w1 : World} (h : Out F w w1) (o : Obj) : Out F w (w1.alloc o) :=
  ⟨h.os, h.tape, h.output, by have := h.size; simp; omega, fun k hk hF => (Below.heap_alloc _ _ _ (Nat.lt_of_lt_of_le hk h.size)).trans (h.block k hk hF)⟩
theorem Out.drew {F : List Nat} {w w1 : World} (h : Out F w w1) : Out F w w1.drew := ⟨h.os, h.tape, h.output, h.size, h.block⟩
theorem Out.setCell {F : List Nat} {w w1 : World} (h : Out F w w1) (g o : Nat) (v : Value) (hg : g ∈ F) : Out F w (w1.setCell ⟨g, o, none⟩ v) :=
  ⟨h.os, h.tape, h.output, by have := h.size; simpa using this, fun k hk hF => (Below.heap_setCell _ _ _ _ (show k ≠ g from fun e => hF (by rw [e]; exact hg))).trans (h.block k hk hF)⟩
theorem Out.below {F : List Nat} {w w' : World} {B : Nat} (h : Out F w w') (hB : B ≤ w.heap.size) (hF : ∀ b, b ∈ F → B ≤ b) : Below B w w' :=
  ⟨h.os, h.tape, h.output, h.size, fun k hk => h.block k (by omega) (fun hm => by have := hF k hm; omega)⟩
theorem Out.trans {F G : List Nat} {w w1 w2 : World} (h : Out F w w1) (k : Out G w1 w2) (hG : ∀ b, b ∈ G → b ∈ F ∨ w.heap.size ≤ b) : Out F w w2 :=
  ⟨k.os.trans h.os, k.tape.trans h.tape, k.output.trans h.output, Nat.le_trans h.size k.size, fun b hb hF => (k.block b (Nat.lt_of_lt_of_le hb h.size) (fun hm => by
    rcases hG b hm with h1 | h1
    · exact hF h1
    · omega)).trans (h.block b hb hF)⟩
theorem Out.of_below {F : List Nat} {w w' : World} (h : Below w.heap.size w w') : Out F w w' := ⟨h.os, h.tape, h.output, h.size, fun k hk _ => h.block k hk⟩
theorem Out.more {F : List Nat} {w w1 w2 : World} (h : Out F w w1) (k : Below w1.heap.size w1 w2) : Out F w w2 :=
  ⟨k.os.trans h.os, k.tape.trans h.tape, k.output.trans h.output, Nat.le_trans h.size k.size, fun b hb hF => (k.block b (Nat.lt_of_lt_of_le hb h.size)).trans (h.block b hb hF)⟩
theorem Out.low {F : List Nat} {B : Nat} {w0 w w' : World} (h : Below B w0 w) (k : Out F w w') (hB : B ≤ w0.heap.size) (hF : ∀ b, b ∈ F → B ≤ b) : Below B w0 w' :=
  h.trans (k.below (Nat.le_trans hB h.size) hF)
end Go.Proofs.YthjgnfeadagmeaaGreat

/- The program's book: Note. -/
namespace Go.Proofs.YthjgnfeadagmeaaGreat
open Go.RowKit Go.Maps

/-- One more is noted. -/
theorem BkAt.more {g m : Nat} {w w2 : World} {L : List (Int × ByteArray)} {D : DataW Unit} (p : Int × ByteArray) (hp : fitP p) (hne : g ≠ m) (hg : w.heap[g]? = some (.cells #[.map (some m)] 107 (0, 0))) (hH : Holds D (.agg []) (.agg []) L)
    (h2 : w2.ownsMap Tryz.prog 87 unitElem m (Maps.size (D.put (kL p) (.agg []))) (D.put (kL p) (.agg []))) (hgr : w.grownBy w2 (some m)) : BkAt [g, m] w2 (.pointer (some ⟨g, 0, none⟩)) (noted L [p]) := by
  have hP := hH.put p hp
  rw [hP.size] at h2
  exact ⟨g, rfl, .inr ⟨m, _, rfl, hne, (hgr.block g (lt_of_blk hg) (fun e => hne (by cases e; rfl))).trans hg, h2, hP⟩⟩
theorem map_nil (w : World) : (binOp .eql 105 (.map none) (.map none)).run Tryz.prog w = .ok (.bool true) w := by kernel_rfl
theorem map_some (m : Nat) (w : World) : (binOp .eql 105 (.map (some m)) (.map none)).run Tryz.prog w = .ok (.bool false) w := by kernel_rfl
theorem BkAt.two {g m : Nat} {w : World} {L : List (Int × ByteArray)} (h : BkAt [g, m] w (.pointer (some ⟨g, 0, none⟩)) L) : ∃ D, g ≠ m ∧ w.heap[g]? = some (.cells #[.map (some m)] 107 (0, 0)) ∧ w.ownsMap Tryz.prog 87 unitElem m L.length D ∧ Holds D (.agg []) (.agg []) L := by
  obtain ⟨g', h1, ⟨h2, _⟩ | ⟨m', D, h2, h3⟩⟩ := h.bk
  · simp at h2
  · simp at h2
    obtain ⟨rfl, rfl⟩ := h2
    exact ⟨D, h3⟩
set_option maxRecDepth 100000 in
set_option maxHeartbeats 3200000 in
theorem tnote_map (g m : Nat) (L : List (Int × ByteArray)) (a : Option Addr) (n cap : Nat) (ss : List (Int × ByteArray)) (hn : ss.length = n) (hm : (L.length + n) * 24 ≤ 140737488355328) (hf : ∀ p, p ∈ ss → fitP p) (w : World) (hB : BkAt [g, m] w (.pointer (some ⟨g, 0, none⟩)) L) (hP : PairsIn w a ss) (hne : ∀ ad, a = some ad → ss ≠ [] → ad.block ∉ [g, m]) :
    Calls Tryz.prog 33 #[.pointer (some ⟨g, 0, none⟩), .slice a n cap] w fun e w' => e = .returned (.tuple #[]) ∧ ∃ F', BkAt F' w' (.pointer (some ⟨g, 0, none⟩)) (noted L ss) ∧ (∀ b, b ∈ F' → b ∈ [g, m] ∨ w.heap.size ≤ b) ∧ Out [g, m] w w' := by
  have hm2 : (n : Int) ≤ 9223372036854775807 := by omega
  obtain ⟨D, hgm, hg, hx⟩ := hB.two
  have c0 : w.cell? ⟨g, 0, none⟩ = some (.map (some m)) := cell_at (L := [.map (some m)]) hg 0 _ rfl
  have HX := hid (And.intro hP (And.intro hn (And.intro hm (And.intro hf hne))))
  have HG := hid hgm
  have H0 := hid hB
  have HF : Hid (∀ b, b ∈ [g, m] → b ∈ [g, m] ∨ w.heap.size ≤ b) := hid (fun b hb => .inl hb)
  clear hP hn hm hf hne hB hg hgm hx D
  have hms := map_some m
  go_enter Tryz.func33, Tryz.ntmps33
  go_wp2
  clear hms c0
  go_loopw [19] (fun i wr => ∃ j : Nat, j ≤ n ∧ i = .int .i64 (j : Int) ∧ BkAt [g, m] wr (.pointer (some ⟨g, 0, none⟩)) (noted L (ss.take j)) ∧ Out [g, m] w wr)
    (fun i _ => ((n : Int) - intOf i).toNat)
  case atStart => exact ⟨0, by omega, rfl, by rw [List.take_zero]; exact H0.out, Out.refl _ _⟩
  case round =>
    obtain ⟨j, hj, rfl, hBk, hOut⟩ := hrel
    have hj0 : (0 : Int) ≤ (j : Int) := Int.natCast_nonneg _
    have HB := hid hBk
    have HO := hid hOut
    clear hBk hOut H0
    by_cases hjn : j = n
    · have hj1 : ¬ ((j : Int) < (n : Int)) := by omega
      have HE : Hid (BkAt [g, m] wr (.pointer (some ⟨g, 0, none⟩)) (noted L ss)) := hid (by
        have := HB.out
        rw [List.take_of_length_le (by rw [HX.out.2.1]; omega)] at this
        exact this)
      clear hj hjn
      go_wp2
      go_end0
      exact ⟨rfl, [g, m], HE.out, fun b hb => by simpa using HF.out b hb, HO.out⟩
    · have hj1 : (j : Int) < (n : Int) := by omega
      have hjl : j < ss.length := by rw [HX.out.2.1]; omega
      obtain ⟨gs, off, rfl, hgs, hc1, hc2⟩ := HX.out.1.at j _ (getP_some hjl)
      have hnf := HX.out.2.2.2.2 _ rfl (by intro e; rw [e] at hjl; simp at hjl)
      have hblk : wr.heap[gs]? = w.heap[gs]? := HO.out.block gs hgs hnf
      have k1 : wr.cell? ⟨gs, off + j * 2, none⟩ = some (.int .i64 (idOf ss j)) := (World.cell?_of_block hblk).trans hc1
      have k2 : wr.cell? ⟨gs, off + j * 2 + 1, none⟩ = some (.string (rtOf ss j)) := (World.cell?_of_block hblk).trans hc2
      have hfit : fitP (idOf ss j, rtOf ss j) := HX.out.2.2.2.1 _ (List.mem_of_getElem? (getP_some hjl))
      have HN : Hid (noted L (ss.take (j + 1)) = noted (noted L (ss.take j)) [(idOf ss j, rtOf ss j)]) := hid (by rw [List.take_add_one, getP_some hjl, noted_app]; rfl)
      have hlen : (noted L (ss.take j)).length < maxLen := by
        have h1 := noted_len (ss.take j) L
        have h2 := HX.out.2.2.1
        rw [List.length_take] at h1
        unfold maxLen
        omega
      obtain ⟨L1, eL1⟩ : ∃ L1, L1 = noted L (ss.take j) := ⟨_, rfl⟩
      rw [← eL1] at HB HN hlen
      generalize idOf ss j = x at k1 hfit HN
      generalize rtOf ss j = r at k2 hfit HN
      obtain ⟨D, _, hg, hmm, hH⟩ := HB.out.two
      have HJ := hid (And.intro hj hjn)
      have HFt := hid (And.intro hfit hlen)
      have HA : Hid ((wr.alloc (.cells #[.int .i64 x, .string r] 87)).drew.heap[g]? = some (.cells #[.map (some m)] 107 (0, 0)) ∧ (wr.alloc (.cells #[.int .i64 x, .string r] 87)).drew.ownsMap Tryz.prog 87 unitElem m L1.length D ∧ Holds D (.agg []) (.agg []) L1 ∧ Out [g, m] w (wr.alloc (.cells #[.int .i64 x, .string r] 87)).drew) := hid ⟨(Below.heap_alloc _ _ _ (lt_of_blk hg)).trans hg, (hmm.alloc _).drew, hH, (HO.out.alloc _).drew⟩
      have HS : Hid ((wr.alloc (.cells #[.int .i64 x, .string r] 87)).drew.cell? ⟨g, 0, none⟩ = some (.map (some m)) ∧ (wr.alloc (.cells #[.int .i64 x, .string r] 87)).drew.cell? ⟨wr.heap.size, 0, none⟩ = some (.int .i64 x) ∧ (wr.alloc (.cells #[.int .i64 x, .string r] 87)).drew.cell? ⟨wr.heap.size, 1, none⟩ = some (.string r)) := hid ⟨cell_at (L := [.map (some m)]) HA.out.1 0 _ rfl, (cell_two (T := 87) (fr := (0, 0)) (heap_alloc_last wr _)).1, (cell_two (T := 87) (fr := (0, 0)) (heap_alloc_last wr _)).2⟩
      clear hj hjn hjl hgs hc1 hc2 hnf hblk hfit hlen hg hmm hH eL1
      go_wp2
      clear k1 k2
      refine wp_region_held (S := fun ww => ww.cell? ⟨g, 0, none⟩ = some (.map (some m)) ∧ ww.cell? ⟨wr.heap.size, 0, none⟩ = some (.int .i64 x) ∧ ww.cell? ⟨wr.heap.size, 1, none⟩ = some (.string r)) (by kernel_rfl) ?_
      try (change wpAnyH _ _ _ _ _ _ _ _ (World.drew _))
      refine wpAnyH_take (i := 0) (v := ?v1) rfl (by kernel_rfl) (by kernel_rfl) (by kernel_rfl) (fun _ _ _ h => h) (Or.inl ⟨by rfl, ?hy1⟩) HS.out ?rest1
      case hy1 => (intro ww _; go_simp; try with_reducible rfl)
      go_simp
      refine wpAnyH_take (i := 1) (v := ?v2) rfl (by kernel_rfl) (by kernel_rfl) (by kernel_rfl) (fun _ _ _ h => h) (Or.inl ⟨by rfl, ?hy2⟩) HS.out ?rest2
      case hy2 => (intro ww _; go_simp; try with_reducible rfl)
      go_simp
      refine wpAnyH_take (i := 2) (v := ?v3) rfl (by kernel_rfl) (by kernel_rfl) (by kernel_rfl) (fun _ _ _ h => h) (Or.inl ⟨by rfl, ?hy3⟩) HS.out ?rest3
      case hy3 => (intro ww _; go_simp; try with_reducible rfl)
      go_simp
      refine wpAnyH_take (i := 3) (v := ?v4) rfl (by kernel_rfl) (by kernel_rfl) (by kernel_rfl) (fun _ _ _ h => h) (Or.inl ⟨by rfl, ?hy4⟩) HS.out ?rest4
      case hy4 => (intro ww hS; obtain ⟨y0, y1, y2⟩ := hS; go_simp; try with_reducible rfl)
      go_simp
      refine wpAnyH_take (i := 4) (v := ?v5) rfl (by kernel_rfl) (by kernel_rfl) (by kernel_rfl) (fun _ _ _ h => h) (Or.inl ⟨by rfl, ?hy5⟩) HS.out ?rest5
      case hy5 => (intro ww hS; obtain ⟨y0, y1, y2⟩ := hS; go_simp; try with_reducible rfl)
      go_simp
      refine wpAnyH_take (i := 5) (v := ?v6) rfl (by kernel_rfl) (by kernel_rfl) (by kernel_rfl) (fun _ _ _ h => h) (Or.inl ⟨by rfl, ?hy6⟩) HS.out ?rest6
      case hy6 => (intro ww _; go_simp; try with_reducible rfl)
      go_simp
      refine wpAnyH_all (rs := [6]) (by kernel_rfl) (by simp) ?_
      intro i hi
      obtain rfl := List.mem_singleton.1 hi
      clear hi
      refine wpOp_h rfl (by rfl) (fun K hK => ?_)
      refine owp_put_sig _ _ _ 105 117 rfl map_type _ m L1.length D (by rfl) HA.out.2.1 HFt.out.2 (x, r) HFt.out.1 (.agg #[]) (by rfl) (by rfl) (.agg []) unitElem_mk ?_
      intro w7 H7
      have H8 := hid (And.intro (BkAt.more (x, r) HFt.out.1 HG.out HA.out.1 HA.out.2.2.1 H7.out.1 H7.out.2) (HA.out.2.2.2.then H7.out.2 (.inl (by simp))))
      refine hK _ _ ⟨?_, ?_⟩
      · have hgl := lt_of_blk HA.out.1
        have hml := HB.out.lt m (by simp)
        have hG := HG.out
        exact ⟨(H7.out.2.cell_far ⟨g, 0, none⟩ hgl (by simpa using hG)).trans HS.out.1, (H7.out.2.cell_far ⟨wr.heap.size, 0, none⟩ (by simp) (by simp; omega)).trans HS.out.2.1, (H7.out.2.cell_far ⟨wr.heap.size, 1, none⟩ (by simp) (by simp; omega)).trans HS.out.2.2⟩
      clear hK K
      go_simp
      refine wpAnyH_done (by kernel_rfl) ?_ _
      go_simp
      go_wp2
      go_roundw
      case rel => exact ⟨j + 1, by have := HJ.out; omega, by go_num, by rw [HN.out]; exact H8.out.1, H8.out.2⟩
      case measure => simp [intOf]; omega
set_option maxRecDepth 100000 in
set_option maxHeartbeats 3200000 in
theorem tnote_none (g : Nat) (a : Option Addr) (n cap : Nat) (ss : List (Int × ByteArray)) (hn : ss.length = n) (hm : n * 24 ≤ 140737488355328) (hf : ∀ p, p ∈ ss → fitP p) (w : World) (hB : w.heap[g]? = some (.cells #[.map none] 107 (0, 0))) (hP : PairsIn w a ss) (hne : ∀ ad, a = some ad → ss ≠ [] → ad.block ∉ [g]) :
    Calls Tryz.prog 33 #[.pointer (some ⟨g, 0, none⟩), .slice a n cap] w fun e w' => e = .returned (.tuple #[]) ∧ ∃ F', BkAt F' w' (.pointer (some ⟨g, 0, none⟩)) (noted [] ss) ∧ (∀ b, b ∈ F' → b ∈ [g] ∨ w.heap.size ≤ b) ∧ Out [g] w w' := by
  have hm2 : (n : Int) ≤ 9223372036854775807 := by omega
  have c0 : w.cell? ⟨g, 0, none⟩ = some (.map none) := cell_at (L := [.map none]) hB 0 _ rfl
  have hgl := lt_of_blk hB
  obtain ⟨m, em⟩ : ∃ m, m = w.heap.size := ⟨_, rfl⟩
  have hgm : g ≠ m := by omega
  obtain ⟨L, eL⟩ : ∃ L : List (Int × ByteArray), L = [] := ⟨_, rfl⟩
  have hbA : (w.alloc (.map #[] 0)).heap[g]? = some (.cells #[.map none] 107 (0, 0)) := (Below.heap_alloc _ _ _ hgl).trans hB
  have fz : (w.alloc (.map #[] 0)).frozen? ⟨g, 0, none⟩ = false := free_at hbA _
  have c1 : (w.alloc (.map #[] 0)).cell? ⟨g, 0, none⟩ = some (.map none) := cell_at (L := [.map none]) hbA 0 _ rfl
  have H0 : Hid (BkAt [g, m] ((w.alloc (.map #[] 0)).setCell ⟨g, 0, none⟩ (.map (some w.heap.size))) (.pointer (some ⟨g, 0, none⟩)) L ∧ Out [g] w ((w.alloc (.map #[] 0)).setCell ⟨g, 0, none⟩ (.map (some w.heap.size)))) := hid ⟨⟨g, rfl, .inr ⟨m, .map [], rfl, hgm, by
      rw [em]
      exact blk_set hbA 0 _, by
      rw [eL, em]
      exact (World.ownsMap_made w Tryz.prog _ _).setCell (a := ⟨g, 0, none⟩) (show w.heap.size ≠ g by omega) _, by rw [eL]; exact Holds.empty _ _⟩⟩, ((Out.refl [g] w).alloc _).setCell g 0 _ (by simp)⟩
  have HX : Hid (PairsIn w a ss ∧ ss.length = n ∧ (L.length + n) * 24 ≤ 140737488355328 ∧ (∀ p, p ∈ ss → fitP p) ∧ ∀ ad, a = some ad → ss ≠ [] → ad.block ∉ [g]) := hid ⟨hP, hn, by rw [eL, List.length_nil, Nat.zero_add]; exact hm, hf, hne⟩
  have HG := hid hgm
  have HM : Hid (w.heap.size ≤ m) := hid (by omega)
  have HF : Hid (∀ b, b ∈ [g, m] → b ∈ [g] ∨ w.heap.size ≤ b) := hid (fun b hb => by
    simp at hb
    rcases hb with rfl | rfl
    · exact .inl (by simp)
    · exact .inr (by omega))
  rw [← eL]
  clear hP hn hm hf hne hB hgm em eL hbA hgl
  have hmm := @run_makeMap Tryz.prog
  have hmn := map_nil
  go_enter Tryz.func33, Tryz.ntmps33
  go_wp2
  clear hmm hmn fz c0 c1
  go_loopw [19] (fun i wr => ∃ j : Nat, j ≤ n ∧ i = .int .i64 (j : Int) ∧ BkAt [g, m] wr (.pointer (some ⟨g, 0, none⟩)) (noted L (ss.take j)) ∧ Out [g] w wr)
    (fun i _ => ((n : Int) - intOf i).toNat)
  case atStart => exact ⟨0, by omega, rfl, by rw [List.take_zero]; exact H0.out.1, H0.out.2⟩
  case round =>
    obtain ⟨j, hj, rfl, hBk, hOut⟩ := hrel
    have hj0 : (0 : Int) ≤ (j : Int) := Int.natCast_nonneg _
    have HB := hid hBk
    have HO := hid hOut
    clear hBk hOut H0
    by_cases hjn : j = n
    · have hj1 : ¬ ((j : Int) < (n : Int)) := by omega
      have HE : Hid (BkAt [g, m] wr (.pointer (some ⟨g, 0, none⟩)) (noted L ss)) := hid (by
        have := HB.out
        rw [List.take_of_length_le (by rw [HX.out.2.1]; omega)] at this
        exact this)
      clear hj hjn
      go_wp2
      go_end0
      exact ⟨rfl, [g, m], HE.out, fun b hb => by simpa using HF.out b hb, HO.out⟩
    · have hj1 : (j : Int) < (n : Int) := by omega
      have hjl : j < ss.length := by rw [HX.out.2.1]; omega
      obtain ⟨gs, off, rfl, hgs, hc1, hc2⟩ := HX.out.1.at j _ (getP_some hjl)
      have hnf := HX.out.2.2.2.2 _ rfl (by intro e; rw [e] at hjl; simp at hjl)
      have hblk : wr.heap[gs]? = w.heap[gs]? := HO.out.block gs hgs hnf
      have k1 : wr.cell? ⟨gs, off + j * 2, none⟩ = some (.int .i64 (idOf ss j)) := (World.cell?_of_block hblk).trans hc1
      have k2 : wr.cell? ⟨gs, off + j * 2 + 1, none⟩ = some (.string (rtOf ss j)) := (World.cell?_of_block hblk).trans hc2
      have hfit : fitP (idOf ss j, rtOf ss j) := HX.out.2.2.2.1 _ (List.mem_of_getElem? (getP_some hjl))
      have HN : Hid (noted L (ss.take (j + 1)) = noted (noted L (ss.take j)) [(idOf ss j, rtOf ss j)]) := hid (by rw [List.take_add_one, getP_some hjl, noted_app]; rfl)
      have hlen : (noted L (ss.take j)).length < maxLen := by
        have h1 := noted_len (ss.take j) L
        have h2 := HX.out.2.2.1
        rw [List.length_take] at h1
        unfold maxLen
        omega
      obtain ⟨L1, eL1⟩ : ∃ L1, L1 = noted L (ss.take j) := ⟨_, rfl⟩
      rw [← eL1] at HB HN hlen
      generalize idOf ss j = x at k1 hfit HN
      generalize rtOf ss j = r at k2 hfit HN
      obtain ⟨D, _, hg, hmm, hH⟩ := HB.out.two
      have HJ := hid (And.intro hj hjn)
      have HFt := hid (And.intro hfit hlen)
      have HA : Hid ((wr.alloc (.cells #[.int .i64 x, .string r] 87)).drew.heap[g]? = some (.cells #[.map (some m)] 107 (0, 0)) ∧ (wr.alloc (.cells #[.int .i64 x, .string r] 87)).drew.ownsMap Tryz.prog 87 unitElem m L1.length D ∧ Holds D (.agg []) (.agg []) L1 ∧ Out [g] w (wr.alloc (.cells #[.int .i64 x, .string r] 87)).drew) := hid ⟨(Below.heap_alloc _ _ _ (lt_of_blk hg)).trans hg, (hmm.alloc _).drew, hH, (HO.out.alloc _).drew⟩
      have HS : Hid ((wr.alloc (.cells #[.int .i64 x, .string r] 87)).drew.cell? ⟨g, 0, none⟩ = some (.map (some m)) ∧ (wr.alloc (.cells #[.int .i64 x, .string r] 87)).drew.cell? ⟨wr.heap.size, 0, none⟩ = some (.int .i64 x) ∧ (wr.alloc (.cells #[.int .i64 x, .string r] 87)).drew.cell? ⟨wr.heap.size, 1, none⟩ = some (.string r)) := hid ⟨cell_at (L := [.map (some m)]) HA.out.1 0 _ rfl, (cell_two (T := 87) (fr := (0, 0)) (heap_alloc_last wr _)).1, (cell_two (T := 87) (fr := (0, 0)) (heap_alloc_last wr _)).2⟩
      clear hj hjn hjl hgs hc1 hc2 hnf hblk hfit hlen hg hmm hH eL1
      go_wp2
      clear k1 k2
      refine wp_region_held (S := fun ww => ww.cell? ⟨g, 0, none⟩ = some (.map (some m)) ∧ ww.cell? ⟨wr.heap.size, 0, none⟩ = some (.int .i64 x) ∧ ww.cell? ⟨wr.heap.size, 1, none⟩ = some (.string r)) (by kernel_rfl) ?_
      try (change wpAnyH _ _ _ _ _ _ _ _ (World.drew _))
      refine wpAnyH_take (i := 0) (v := ?v1) rfl (by kernel_rfl) (by kernel_rfl) (by kernel_rfl) (fun _ _ _ h => h) (Or.inl ⟨by rfl, ?hy1⟩) HS.out ?rest1
      case hy1 => (intro ww _; go_simp; try with_reducible rfl)
      go_simp
      refine wpAnyH_take (i := 1) (v := ?v2) rfl (by kernel_rfl) (by kernel_rfl) (by kernel_rfl) (fun _ _ _ h => h) (Or.inl ⟨by rfl, ?hy2⟩) HS.out ?rest2
      case hy2 => (intro ww _; go_simp; try with_reducible rfl)
      go_simp
      refine wpAnyH_take (i := 2) (v := ?v3) rfl (by kernel_rfl) (by kernel_rfl) (by kernel_rfl) (fun _ _ _ h => h) (Or.inl ⟨by rfl, ?hy3⟩) HS.out ?rest3
      case hy3 => (intro ww _; go_simp; try with_reducible rfl)
      go_simp
      refine wpAnyH_take (i := 3) (v := ?v4) rfl (by kernel_rfl) (by kernel_rfl) (by kernel_rfl) (fun _ _ _ h => h) (Or.inl ⟨by rfl, ?hy4⟩) HS.out ?rest4
      case hy4 => (intro ww hS; obtain ⟨y0, y1, y2⟩ := hS; go_simp; try with_reducible rfl)
      go_simp
      refine wpAnyH_take (i := 4) (v := ?v5) rfl (by kernel_rfl) (by kernel_rfl) (by kernel_rfl) (fun _ _ _ h => h) (Or.inl ⟨by rfl, ?hy5⟩) HS.out ?rest5
      case hy5 => (intro ww hS; obtain ⟨y0, y1, y2⟩ := hS; go_simp; try with_reducible rfl)
      go_simp
      refine wpAnyH_take (i := 5) (v := ?v6) rfl (by kernel_rfl) (by kernel_rfl) (by kernel_rfl) (fun _ _ _ h => h) (Or.inl ⟨by rfl, ?hy6⟩) HS.out ?rest6
      case hy6 => (intro ww _; go_simp; try with_reducible rfl)
      go_simp
      refine wpAnyH_all (rs := [6]) (by kernel_rfl) (by simp) ?_
      intro i hi
      obtain rfl := List.mem_singleton.1 hi
      clear hi
      refine wpOp_h rfl (by rfl) (fun K hK => ?_)
      refine owp_put_sig _ _ _ 105 117 rfl map_type _ m L1.length D (by rfl) HA.out.2.1 HFt.out.2 (x, r) HFt.out.1 (.agg #[]) (by rfl) (by rfl) (.agg []) unitElem_mk ?_
      intro w7 H7
      have H8 := hid (And.intro (BkAt.more (x, r) HFt.out.1 HG.out HA.out.1 HA.out.2.2.1 H7.out.1 H7.out.2) (HA.out.2.2.2.then H7.out.2 (.inr HM.out)))
      refine hK _ _ ⟨?_, ?_⟩
      · have hgl := lt_of_blk HA.out.1
        have hml := HB.out.lt m (by simp)
        have hG := HG.out
        exact ⟨(H7.out.2.cell_far ⟨g, 0, none⟩ hgl (by simpa using hG)).trans HS.out.1, (H7.out.2.cell_far ⟨wr.heap.size, 0, none⟩ (by simp) (by simp; omega)).trans HS.out.2.1, (H7.out.2.cell_far ⟨wr.heap.size, 1, none⟩ (by simp) (by simp; omega)).trans HS.out.2.2⟩
      clear hK K
      go_simp
      refine wpAnyH_done (by kernel_rfl) ?_ _
      go_simp
      go_wp2
      go_roundw
      case rel => exact ⟨j + 1, by have := HJ.out; omega, by go_num, by rw [HN.out]; exact H8.out.1, H8.out.2⟩
      case measure => simp [intOf]; omega
theorem tnote_any (F : List Nat) (v : Value) (L : List (Int × ByteArray)) (a : Option Addr) (n cap : Nat) (ss : List (Int × ByteArray)) (hn : ss.length = n) (hm : (L.length + n) * 24 ≤ 140737488355328) (hf : ∀ p, p ∈ ss → fitP p) (w : World) (hB : BkAt F w v L) (hP : PairsIn w a ss) (hne : ∀ ad, a = some ad → ss ≠ [] → ad.block ∉ F) :
    Calls Tryz.prog 33 #[v, .slice a n cap] w fun e w' => e = .returned (.tuple #[]) ∧ ∃ F', BkAt F' w' v (noted L ss) ∧ (∀ b, b ∈ F' → b ∈ F ∨ w.heap.size ≤ b) ∧ Out F w w' := by
  obtain ⟨g, rfl, ⟨rfl, hg, rfl⟩ | ⟨m, D, rfl, _⟩⟩ := hB.bk
  · exact tnote_none g a n cap ss hn (by simpa using hm) hf w hg hP hne
  · exact tnote_map g m L a n cap ss hn hm hf w hB hP hne
end Go.Proofs.YthjgnfeadagmeaaGreat

/- The document's proofs. -/
namespace Go.Proofs.YthjgnfeadagmeaaGreat
open Go.RowKit

/-- The i-th signature is of this text, by a member, behind the one ahead of it. -/
def okT (l : List Int) (t : ByteArray) (ss : List (Int × ByteArray)) (i : Nat) : Bool := decide ((rtOf ss i).data.toList = t.data.toList) && (hasM l (idOf ss i) && (decide (i = 0) || decide (idOf ss (i - 1) < idOf ss i)))
def okTTo (l : List Int) (t : ByteArray) (ss : List (Int × ByteArray)) : Nat → Bool
  | 0 => true
  | j + 1 => okTTo l t ss j && okT l t ss j
theorem okTTo_succ (l : List Int) (t : ByteArray) (ss : List (Int × ByteArray)) (j : Nat) : okTTo l t ss (j + 1) = (okTTo l t ss j && okT l t ss j) := rfl
theorem okTTo_false (l : List Int) (t : ByteArray) (ss : List (Int × ByteArray)) (j n : Nat) (h : okTTo l t ss j = false) (hn : j ≤ n) : okTTo l t ss n = false := by
  induction n with
  | zero =>
    obtain rfl : j = 0 := by omega
    exact h
  | succ n ih =>
    by_cases e : j = n + 1
    · rw [← e]; exact h
    · rw [okTTo_succ, ih (by omega)]; rfl
def provesB (ep : Int) (l : List Int) (t : ByteArray) (ss : List (Int × ByteArray)) : Bool := okTTo l t ss ss.length && (rightC ep l && (decide (quoZ (l.length : Int) ≤ (ss.length : Int)) && decide (ss.length ≤ 16)))
end Go.Proofs.YthjgnfeadagmeaaGreat

/- The document's lineage: which link is good behind which configuration. -/
namespace Go.Proofs.YthjgnfeadagmeaaGreat
open Go.RowKit

/-- Which link is good behind which configuration. -/
def validE (ep : Int) (l : List Int) (e2 : Int) (l2 : List Int) (ss : List (Int × ByteArray)) : Int :=
  if rightC ep l = false then 1 else if rightC e2 l2 = false then 1 else if e2 ≠ ep + 1 then 12 else if provesB ep l (textC e2 l2) ss = false then 15 else 0
/-- A link at block b. -/
def LnAt (w : World) (b : Nat) (e : Int) (vm vs : Value) : Prop := w.heap[b]? = some (.cells [.int .i64 e, vm, vs].toArray 96 (0, 0))
theorem LnAt.lt {w : World} {b : Nat} {e : Int} {vm vs : Value} (h : LnAt w b e vm vs) : b < w.heap.size := lt_of_blk h
theorem LnAt.keep {w w' : World} {b : Nat} {e : Int} {vm vs : Value} (h : LnAt w b e vm vs) (hb : Below w.heap.size w w') : LnAt w' b e vm vs := (hb.block b h.lt).trans h
theorem LnAt.cells {w : World} {b : Nat} {e : Int} {vm vs : Value} (h : LnAt w b e vm vs) : w.cell? ⟨b, 0, none⟩ = some (.int .i64 e) ∧ w.cell? ⟨b, 1, none⟩ = some vm ∧ w.cell? ⟨b, 2, none⟩ = some vs :=
  ⟨cell_at h 0 _ rfl, cell_at h 1 _ rfl, cell_at h 2 _ rfl⟩
/-- While a link is looked at: the old configuration, the link. -/
structure VaSt (w0 : World) (ep : Int) (vo : Value) (e2 : Int) (vm vs : Value) (w : World) : Prop where
  old : w.heap[w0.heap.size]? = some (.cells #[.int .i64 ep, vo] 94 (0, 0))
  ln : LnAt w (w0.heap.size + 1) e2 vm vs
  bel : Below w0.heap.size w0 w
theorem VaSt.keep {w0 : World} {ep : Int} {vo : Value} {e2 : Int} {vm vs : Value} {w w' : World} (h : VaSt w0 ep vo e2 vm vs w) (hb : Below w.heap.size w w') : VaSt w0 ep vo e2 vm vs w' :=
  ⟨(hb.block _ (lt_of_blk h.old)).trans h.old, h.ln.keep hb, h.bel.trans (hb.mono h.bel.size)⟩
end Go.Proofs.YthjgnfeadagmeaaGreat

/- Rows of one's own whose elements lead to data of any depth elsewhere. No walk here. -/
namespace Go.Proofs.YthjgnfeadagmeaaGreat
open Go.RowKit

/-- The slice v holds the elements es in a row of its own (from block B on); what they lead to is read through blocks of F, and the row is none of them. -/
structure OwnD (T : TypeId) (sz B : Nat) (F : Nat → Prop) (w : World) (v : Value) (es : List (List Dat)) : Prop where
  own : ∃ cs : List Value, w.ownsRow B T sz v es.length cs ∧ ∀ (j : Nat) (e : List Dat), es[j]? = some e → e.length = sz ∧ ∀ (q : Nat) (d : Dat), e[q]? = some d → ∃ u, cs[j * sz + q]? = some u ∧ Reads F w u d
  sep : ∀ g, v.ownBlock = some g → ¬ F g
theorem OwnD.nil (T : TypeId) (sz B : Nat) (F : Nat → Prop) (w : World) : OwnD T sz B F w (.slice none 0 0) [] :=
  ⟨⟨[], ⟨by simp, .inl ⟨rfl, rfl⟩⟩, fun j e h => by simp at h⟩, fun g h => by simp [Value.ownBlock] at h⟩
theorem OwnD.form {T : TypeId} {sz B : Nat} {F : Nat → Prop} {w : World} {v : Value} {es : List (List Dat)} (h : OwnD T sz B F w v es) : ∃ ad cap, v = .slice ad es.length cap := by
  obtain ⟨cs, ho, _⟩ := h.own
  rcases ho.2 with ⟨hv, h0⟩ | ⟨g, cap, cur, hv, _⟩
  · exact ⟨none, 0, by rw [hv, h0]⟩
  · exact ⟨_, cap, hv⟩
theorem OwnD.lt {T : TypeId} {sz B : Nat} {F : Nat → Prop} {w : World} {v : Value} {es : List (List Dat)} (h : OwnD T sz B F w v es) : ∀ g, v.ownBlock = some g → B ≤ g ∧ g < w.heap.size := fun g hg => by
  obtain ⟨cs, ho, _⟩ := h.own
  exact ho.lt g hg
/-- It stays while the row and what it leads to stay. -/
theorem OwnD.keep {T : TypeId} {sz B : Nat} {F : Nat → Prop} {w w' : World} {v : Value} {es : List (List Dat)} (h : OwnD T sz B F w v es) (hs : w.heap.size ≤ w'.heap.size) (hF : ∀ k, k < w.heap.size → F k → w'.heap[k]? = w.heap[k]?) (hr : ∀ g, v.ownBlock = some g → w'.heap[g]? = w.heap[g]?) : OwnD T sz B F w' v es := by
  obtain ⟨cs, ho, hc⟩ := h.own
  refine ⟨⟨cs, ⟨ho.1, ?_⟩, fun j e he => ⟨(hc j e he).1, fun q d hd => ?_⟩⟩, h.sep⟩
  · rcases ho.2 with hx | ⟨g, cap, cur, hv, hg, hh, hr2⟩
    · exact .inl hx
    · exact .inr ⟨g, cap, cur, hv, hg, (hr g (by rw [hv]; rfl)).trans hh, hr2⟩
  · obtain ⟨u, h1, h2⟩ := (hc j e he).2 q d hd
    exact ⟨u, h1, h2.keep hs hF⟩
theorem OwnD.under {T : TypeId} {sz B C : Nat} {F : Nat → Prop} {w w' : World} {v : Value} {es : List (List Dat)} (h : OwnD T sz B F w v es) (hb : Below C w w') (hC : w.heap.size ≤ C) : OwnD T sz B F w' v es :=
  h.keep hb.size (fun k hk _ => hb.block k (Nat.lt_of_lt_of_le hk hC)) (fun g hg => hb.block g (Nat.lt_of_lt_of_le (h.lt g hg).2 hC))
theorem ownsRow_one {w : World} {B sz n : Nat} {T : TypeId} {v : Value} {cs cs' : List Value} (h : w.ownsRow B T sz v n cs) (h' : w.ownsRow B T sz v n cs') : cs = cs' := by
  rcases h.2 with ⟨_, h0⟩ | ⟨g, cap, cur, hv, _, hh, _, _, _, ht⟩
  · have h1 := h.1
    have h2 := h'.1
    rw [h0, Nat.zero_mul] at h1 h2
    rw [List.eq_nil_of_length_eq_zero h1, List.eq_nil_of_length_eq_zero h2]
  · rcases h'.2 with ⟨hv', _⟩ | ⟨g', cap', cur', hv', _, hh', _, _, _, ht'⟩
    · rw [hv] at hv'; cases hv'
    · rw [hv] at hv'
      cases hv'
      rw [hh] at hh'
      cases hh'
      rw [← ht, ← ht']
/-- One more element behind the others. -/
theorem OwnD.grow {T : TypeId} {sz B : Nat} {F F' : Nat → Prop} {w w2 : World} {v v2 : Value} {es : List (List Dat)} {e : List Dat} {cs news : List Value} (h : OwnD T sz B F w v es) (ho : w.ownsRow B T sz v es.length cs)
    (he : e.length = sz) (hnew : ∀ (q : Nat) (d : Dat), e[q]? = some d → ∃ u, news[q]? = some u ∧ Reads F' w2 u d)
    (h2 : w2.ownsRow B T sz v2 (es.length + 1) (cs ++ news)) (hg : w.grownBy w2 v.ownBlock) (hF : ∀ k, k < w.heap.size → F k → F' k) (hsep : ∀ g, v2.ownBlock = some g → ¬ F' g) : OwnD T sz B F' w2 v2 (es ++ [e]) := by
  obtain ⟨cs', ho', hc⟩ := h.own
  obtain rfl := ownsRow_one ho ho'
  refine ⟨⟨cs ++ news, by rw [List.length_append]; exact h2, fun j x hx => ?_⟩, hsep⟩
  have hl : cs.length = es.length * sz := ho'.1
  by_cases hj : j < es.length
  · rw [List.getElem?_append_left hj] at hx
    obtain ⟨h1, h3⟩ := hc j x hx
    refine ⟨h1, fun q d hd => ?_⟩
    obtain ⟨u, h4, h5⟩ := h3 q d hd
    exact ⟨u, by rw [List.getElem?_append_left (List.getElem?_eq_some_iff.1 h4).1]; exact h4, h5.move hg.size (fun k hk hFk => ⟨hg.block k hk (fun e => h.sep k e.symm hFk), hF k hk hFk⟩)⟩
  · have hj2 : j = es.length := by
      have := (List.getElem?_eq_some_iff.1 hx).1
      simp at this
      omega
    subst hj2
    simp at hx
    subst hx
    refine ⟨he, fun q d hd => ?_⟩
    obtain ⟨u, h4, h5⟩ := hnew q d hd
    refine ⟨u, ?_, h5⟩
    rw [List.getElem?_append_right (by omega), hl, Nat.add_sub_cancel_left]
    exact h4
/-- What such a slice reads as. -/
theorem OwnD.reads {T : TypeId} {sz B : Nat} {F : Nat → Prop} {w : World} {v : Value} {es : List (List Dat)} (h : OwnD T sz B F w v es) : Reads (fun k => F k ∨ v.ownBlock = some k) w v (.l sz es) := by
  obtain ⟨cs, ho, hc⟩ := h.own
  cases es with
  | nil =>
    obtain ⟨ad, cap, hv⟩ := h.form
    rw [hv]
    exact .nil ad cap sz
  | cons e0 es =>
    rcases ho.2 with ⟨_, h0⟩ | ⟨g, cap, cur, hv, hB, hh, hnc, hcp, hcs, ht⟩
    · simp at h0
    · subst hv
      refine .l g 0 cap sz (e0 :: es) (fun j q => cs.getD (j * sz + q) undef) (.inr rfl) (lt_of_blk hh) (fun j e he => (hc j e he).1) (fun j e q d he hd => ?_) (fun j e q d he hd => ?_)
      · obtain ⟨u, h1, _⟩ := (hc j e he).2 q d hd
        have := ho.cells (g := g) rfl _ _ h1
        rw [Addr.add_lit] at this
        rw [List.getD_eq_getElem?_getD, h1, Nat.add_assoc]
        exact this
      · obtain ⟨u, h1, h2⟩ := (hc j e he).2 q d hd
        rw [List.getD_eq_getElem?_getD, h1]
        exact h2.mono (fun k _ hk => .inl hk)
end Go.Proofs.YthjgnfeadagmeaaGreat

/- The document's lineage: a link copied into memory of its own. -/
namespace Go.Proofs.YthjgnfeadagmeaaGreat
open Go.RowKit

section
variable {P : Program} {ops : Array Oper} {o : Oper} {a : Act} {w : World} {Q : Exit → Act → World → Prop} {K : Act → World → Prop}
theorem wpOp_k {i : Nat} (hi : ops[i]? = some o) (hw : Region.wanted o (yielded ops a.tmps) = true) (h : ∀ K' : Act → World → Prop, (∀ a w, K a w → K' a w) → o.wp P a w K' Q) : wpOp P ops Q i K a w := by
  unfold Go.wpOp
  simp only [hi, hw, if_true]
  exact .inl (h _ (fun _ _ h => h))
end
section
variable {o : Oper} {a : Act} {w : World} {Q : Exit → Act → World → Prop} {K : Act → World → Prop}
/-- A copy of one's own. -/
theorem owp_ownI (x y : Operand) (ho : o.op = .call { callee := .builtin .append, args := #[x, y], argTypes := #[22, 22] })
    (hx : a.eval x = .slice none 0 0) (ad : Option Addr) (n cap : Nat) (zs : List Int) (hy : a.eval y = .slice ad n cap) (hn : zs.length = n) (hS : IntsIn w ad zs) (hl : n ≤ 17592186043904)
    (h : ∀ v' w', Hid (OwnedI w.heap.size w w' v' zs) → K (a.put o.dst v') w') : o.wp Tryz.prog a w K Q := by
  obtain ⟨i0, hi0, hz0, hz1, hz2⟩ := info_parts Tryz.info3
  cases ad with
  | none =>
    obtain rfl : zs = [] := by rcases hS with h | ⟨g, off, ha, _⟩; exact h; cases ha
    obtain rfl : 0 = n := hn
    refine owp_value (v := .slice none 0 0) (w' := w) ?_ (h _ _ (OwnedI.nil (Below.refl _ _) (Nat.le_refl _)))
    simp [execOp, ho, resolve, invoke, builtin, hx, hy, Builtin.append_, run_underlying Tryz.underlying22, sizeOf, typeInfo, hi0, Builtin.lenOf, Builtin.firstCells, Result.andThen]
  | some ad =>
    refine wp_append_own w x y 22 ho w.heap.size 3 i0 (.int .i64 0) 1 8 Tryz.underlying22 hi0 hz0 hz1 hz2 rfl (by decide) (.slice none 0 0) 0 [] hx ⟨rfl, .inl ⟨rfl, rfl⟩⟩ ad n cap (iC zs) hy (by rw [iC_len, hn, Nat.mul_one]) (fun j v hv => ?_) (iC_one _) (by unfold maxLen; omega) (by omega) (Nat.le_refl _) (fun v' w' hown hgrow _ => ?_)
    · obtain ⟨s, hs, rfl⟩ := iC_back zs j v hv
      rcases hS with h | ⟨g, off, ha, hg, hc⟩
      · rw [h] at hs; simp at hs
      · cases ha
        rw [Addr.add_lit]
        exact hc j s hs
    · exact h v' w' ((OwnedI.nil (Below.refl w.heap.size w) (Nat.le_refl _)).grow (xs := zs) hn hown hgrow)
end
theorem OwnedT.slice {B : Nat} {w0 w : World} {v : Value} {ps : List (Int × ByteArray)} (h : OwnedT B w0 w v ps) : ∃ ad cap, v = .slice ad ps.length cap ∧ PairsIn w ad ps ∧ ∀ x, ad = some x → B ≤ x.block ∧ x.block < w.heap.size := by
  obtain ⟨ad, cap, hv, hp⟩ := own_pairsT h.own
  refine ⟨ad, cap, hv, hp, fun x hx => ?_⟩
  rcases h.own.2 with ⟨hv2, _⟩ | ⟨g, c, cur, hv2, hb, hh, _⟩
  · rw [hv, hx] at hv2; cases hv2
  · rw [hv, hx] at hv2; cases hv2; exact ⟨hb, lt_of_blk hh⟩
theorem ints_far {w w' : World} {ad : Option Addr} {l : List Int} (h : IntsIn w ad l) (hs : w.heap.size ≤ w'.heap.size) (hb : ∀ x, ad = some x → w'.heap[x.block]? = w.heap[x.block]?) : IntsIn w' ad l := by
  rcases h with h | ⟨g, off, rfl, hg, hc⟩
  · exact .inl h
  · exact .inr ⟨g, off, rfl, Nat.lt_of_lt_of_le hg hs, fun j z hz => (World.cell?_of_block (a := ⟨g, off + j, none⟩) (hb ⟨g, off, none⟩ rfl)).trans (hc j z hz)⟩
theorem pairs_far {w w' : World} {ad : Option Addr} {ps : List (Int × ByteArray)} (h : PairsIn w ad ps) (hs : w.heap.size ≤ w'.heap.size) (hb : ∀ x, ad = some x → w'.heap[x.block]? = w.heap[x.block]?) : PairsIn w' ad ps := by
  rcases h with h | ⟨g, off, rfl, hg, hc⟩
  · exact .inl h
  · exact .inr ⟨g, off, rfl, Nat.lt_of_lt_of_le hg hs, fun j p hp => ⟨(World.cell?_of_block (a := ⟨g, off + j * 2, none⟩) (hb ⟨g, off, none⟩ rfl)).trans (hc j p hp).1, (World.cell?_of_block (a := ⟨g, off + j * 2 + 1, none⟩) (hb ⟨g, off, none⟩ rfl)).trans (hc j p hp).2⟩⟩
/-- While a link is copied: the link's block, the result's block. -/
structure CpSt (w0 w : World) (e : Int) (vm vs : Value) : Prop where
  ln : LnAt w w0.heap.size e vm vs
  res : w.heap[w0.heap.size + 1]? = some (.cells #[.int .i64 0, .slice none 0 0, .slice none 0 0] 96 (0, 0))
  bel : Below w0.heap.size w0 w
theorem CpSt.keep {w0 w w' : World} {e : Int} {vm vs : Value} (h : CpSt w0 w e vm vs) (hb : Below w.heap.size w w') : CpSt w0 w' e vm vs :=
  ⟨h.ln.keep hb, (hb.block _ (lt_of_blk h.res)).trans h.res, h.bel.trans (hb.mono h.bel.size)⟩
theorem cell_three {w : World} {b : Nat} {x0 x1 x2 : Value} {T : TypeId} {fr : Nat × Nat} (h : w.heap[b]? = some (.cells #[x0, x1, x2] T fr)) : w.cell? ⟨b, 0, none⟩ = some x0 ∧ w.cell? ⟨b, 1, none⟩ = some x1 ∧ w.cell? ⟨b, 2, none⟩ = some x2 :=
  ⟨cell_at (L := [x0, x1, x2]) h 0 _ rfl, cell_at (L := [x0, x1, x2]) h 1 _ rfl, cell_at (L := [x0, x1, x2]) h 2 _ rfl⟩
theorem res_put3 {w : World} {b : Nat} {p q r x0 x1 x2 : Value} {T : TypeId} (h : w.heap[b]? = some (.cells #[p, q, r] T (0, 0))) : (((w.setCell ⟨b, 0, none⟩ x0).setCell ⟨b, 1, none⟩ x1).setCell ⟨b, 2, none⟩ x2).heap[b]? = some (.cells #[x0, x1, x2] T (0, 0)) := by
  have h1 : (w.setCell ⟨b, 0, none⟩ x0).heap[b]? = some (.cells #[x0, q, r] T (0, 0)) := (blk_set h 0 x0).trans (by simp)
  have h2 : ((w.setCell ⟨b, 0, none⟩ x0).setCell ⟨b, 1, none⟩ x1).heap[b]? = some (.cells #[x0, x1, r] T (0, 0)) := (blk_set h1 1 x1).trans (by simp)
  exact (blk_set h2 2 x2).trans (by simp)
theorem load_link (w : World) (b : Nat) (x0 x1 x2 : Value) (c0 : w.cell? ⟨b, 0, none⟩ = some x0) (c1 : w.cell? ⟨b, 1, none⟩ = some x1) (c2 : w.cell? ⟨b, 2, none⟩ = some x2) : (loadVar 96 ⟨b, 0, none⟩).run Tryz.prog w = .ok (.agg #[x0, x1, x2]) w := by
  go_simp
theorem ret_one {f : Func} {a : Act} {w : World} {Q : Ending → World → Prop} {s : Nat} {t : TypeId} {ad : Addr} {v : Value} (hr : f.results = #[.cell s t]) (hs : a.tmps.getD s undef = .pointer (some ad)) (hl : (loadVar t ad).run Tryz.prog w = .ok v w) (hd : a.defers = [])
    (h : Q (.returned v) w) : bodyPost Tryz.prog f Q .ret a w := by
  refine bodyPost_ret (v := v) ?_ hd h
  have h1 : a.tmps.getD s undef = .pointer (some ad) := hs
  simp [results, hr, -Array.getD_eq_getD_getElem?, h1, asAddr, hl]
end Go.Proofs.YthjgnfeadagmeaaGreat

/- The document's tracker: in memory; At. -/
namespace Go.Proofs.YthjgnfeadagmeaaGreat
open Go.RowKit

abbrev Lk := Int × (List Int × List (Int × ByteArray))
def dLk (k : Lk) : List Dat := [.i k.1, dInts k.2.1, dPairs k.2.2]
def dLks (ls : List Lk) : List (List Dat) := ls.map dLk
theorem dLks_len (ls : List Lk) : (dLks ls).length = ls.length := List.length_map ..
theorem dLks_at {ls : List Lk} {j : Nat} {k : Lk} (h : ls[j]? = some k) : (dLks ls)[j]? = some (dLk k) := by rw [dLks, List.getElem?_map, h]; rfl
/-- What At answers. -/
def atZ (ep : Int) (ls : List Lk) (e : Int) : Int := if e = 0 then ep else if 1 ≤ e ∧ e ≤ ls.length then (ls.getD (e - 1).toNat (0, [], [])).1 else 0
def atM (fm : List Int) (ls : List Lk) (e : Int) : List Int := if e = 0 then fm else if 1 ≤ e ∧ e ≤ ls.length then (ls.getD (e - 1).toNat (0, [], [])).2.1 else []
def atB (ls : List Lk) (e : Int) : Bool := decide (0 ≤ e ∧ e ≤ ls.length)
theorem ints_put {w : World} {ad : Option Addr} {l : List Int} (h : IntsIn w ad l) (r o : Nat) (x : Value) (hne : ∀ y, ad = some y → l ≠ [] → y.block ≠ r) : IntsIn (w.setCell ⟨r, o, none⟩ x) ad l := by
  rcases h with h | ⟨g, off, rfl, hg, hc⟩
  · exact .inl h
  · cases l with
    | nil => exact .inl rfl
    | cons z l => exact .inr ⟨g, off, rfl, by simpa [World.setCell] using hg, fun j s hs => (World.cell?_of_block (a := ⟨g, off + j, none⟩) (Below.heap_setCell _ _ _ _ (hne _ rfl (by simp)))).trans (hc j s hs)⟩
theorem ints_lt {w : World} {ad : Option Addr} {l : List Int} (h : IntsIn w ad l) : ∀ x, ad = some x → l ≠ [] → x.block < w.heap.size := fun x hx hne => by
  rcases h with h | ⟨g, off, ha, hg, _⟩
  · exact absurd h hne
  · rw [hx] at ha; cases ha; exact hg
end Go.Proofs.YthjgnfeadagmeaaGreat

/- The document's tracker: Add. -/
namespace Go.Proofs.YthjgnfeadagmeaaGreat
open Go.RowKit

theorem Tryz.info96 : (Tryz.prog.info? 96).map (fun i => (i.zero, i.size, i.bytes)) = some (some (.agg #[.int .i64 0, .slice none 0 0, .slice none 0 0]), 3, 56) := by kernel_rfl
section
variable {o : Oper} {a : Act} {w : World} {Q : Exit → Act → World → Prop} {K : Act → World → Prop}
/-- One more link behind one's own. -/
theorem owp_add_link (s x : Operand) (ho : o.op = .call { callee := .builtin .append, args := #[s, x], argTypes := #[46, 46] }) (B : Nat) (F F' : Nat → Prop) (v : Value) (ls : List Lk) (hs : a.eval s = v) (hO : OwnD 96 3 B F w v (dLks ls)) (hB : B ≤ w.heap.size)
    (g : Nat) (hx : a.eval x = .slice (some ⟨g, 0, none⟩) 1 1) (k : Lk) (u1 u2 : Value) (c0 : w.cell? ⟨g, 0, none⟩ = some (.int .i64 k.1)) (c1 : w.cell? ⟨g, 1, none⟩ = some u1) (c2 : w.cell? ⟨g, 2, none⟩ = some u2) (o1 : u1.oneCell' = true) (o2 : u2.oneCell' = true)
    (hu1 : Reads F' w u1 (dInts k.2.1)) (hu2 : Reads F' w u2 (dPairs k.2.2)) (hF : ∀ j, j < w.heap.size → F j → F' j) (hrow : ∀ j, v.ownBlock = some j → ¬ F' j) (hnew : ∀ j, F' j → j < w.heap.size) (hl : ls.length + 1 ≤ 1000)
    (h : ∀ v' w', Hid (OwnD 96 3 B F' w' v' (dLks (ls ++ [k])) ∧ w.grownBy w' v.ownBlock ∧ (v'.ownBlock = v.ownBlock ∨ v'.ownBlock = some w.heap.size)) → K (a.put o.dst v') w') : o.wp Tryz.prog a w K Q := by
  obtain ⟨i0, hi0, hz0, hz1, hz2⟩ := info_parts Tryz.info96
  obtain ⟨cs, hown, _⟩ := hO.own
  obtain ⟨v', w', hr, h2, h3, h4, h5⟩ := run_append_own_at (P := Tryz.prog) w B 46 o.type 96 i0 (.agg #[.int .i64 0, .slice none 0 0, .slice none 0 0]) 3 56 Tryz.underlying46 hi0 hz0 hz1 hz2 rfl (by decide) v _ cs hown ⟨g, 0, none⟩ 1 1 [.int .i64 k.1, u1, u2] rfl (fun j u hj => by
    match j, hj with
    | 0, hj => simp at hj; subst hj; simpa [Addr.add] using c0
    | 1, hj => simp at hj; subst hj; simpa [Addr.add] using c1
    | 2, hj => simp at hj; subst hj; simpa [Addr.add] using c2) (by intro u hu; simp at hu; rcases hu with rfl | rfl | rfl; rfl; exact o1; exact o2) (by rw [dLks_len]; unfold maxLen; omega) (by rw [dLks_len]; omega) hB
  have hkeep : ∀ {u : Value} {d : Dat}, Reads F' w u d → Reads F' w' u d := fun hu => hu.keep h3.size (fun j hj hFj => h3.block j hj (fun e => hrow j e.symm hFj))
  refine owp_value (v := v') (w' := w') ?_ (h v' w' ⟨?_, h3, h5⟩)
  · simp [execOp, ho, resolve, invoke, builtin, hs, hx, hr, Result.andThen]
  · have := hO.grow (F' := F') (e := dLk k) hown rfl (fun q d hd => by
      match q, hd with
      | 0, hd => cases hd; exact ⟨_, rfl, .i _⟩
      | 1, hd => cases hd; exact ⟨_, rfl, hkeep hu1⟩
      | 2, hd => cases hd; exact ⟨_, rfl, hkeep hu2⟩) h2 h3 hF (fun j hj hFj => by
      rcases h5 with e | e
      · exact hrow j (e ▸ hj) hFj
      · rw [e] at hj
        cases hj
        exact absurd (hnew _ hFj) (by omega))
    rw [dLks, List.map_append]
    exact this
end
theorem pairs_lt {w : World} {ad : Option Addr} {l : List (Int × ByteArray)} (h : PairsIn w ad l) : ∀ x, ad = some x → l ≠ [] → x.block < w.heap.size := fun x hx hne => by
  rcases h with h | ⟨g, off, ha, hg, _⟩
  · exact absurd h hne
  · rw [hx] at ha; cases ha; exact hg
/-- The document's tracker while a link is put to it. -/
def lastZ (ep : Int) (ls : List Lk) : Int := atZ ep ls (ls.length : Int)
def lastM (fm : List Int) (ls : List Lk) : List Int := atM fm ls (ls.length : Int)
theorem lastM_len (fm : List Int) (ls : List Lk) (h0 : fm.length ≤ maxLen) (h : ∀ k, k ∈ ls → k.2.1.length ≤ maxLen) : (lastM fm ls).length ≤ maxLen := by
  unfold lastM atM
  split
  · exact h0
  · split
    · next h1 =>
      have hj : ((ls.length : Int) - 1).toNat < ls.length := by omega
      rw [List.getD_eq_getElem?_getD, List.getElem?_eq_getElem hj]
      exact h _ (List.getElem_mem hj)
    · exact Nat.zero_le _
end Go.Proofs.YthjgnfeadagmeaaGreat

/- The document's tracker: New. -/
namespace Go.Proofs.YthjgnfeadagmeaaGreat
open Go.RowKit

/-- The blocks of a first configuration. -/
def confF (a : Option Addr) (l : List Int) : Nat → Prop := fun k => ∃ x, a = some x ∧ l ≠ [] ∧ k = x.block
theorem confF_lt {w : World} {a : Option Addr} {l : List Int} (h : IntsIn w a l) (k : Nat) (hk : confF a l k) : k < w.heap.size := by
  obtain ⟨x, hx, hl, rfl⟩ := hk
  exact ints_lt h x hx hl
end Go.Proofs.YthjgnfeadagmeaaGreat

/- The document's SameInts, of any two lists. -/
namespace Go.Proofs.YthjgnfeadagmeaaGreat
open Go.RowKit

theorem take_grow {α : Type} {l1 l2 : List α} {j : Nat} {s : α} (h : l1.take j = l2.take j) (h1 : l1[j]? = some s) (h2 : l2[j]? = some s) : l1.take (j + 1) = l2.take (j + 1) := by
  obtain ⟨hj1, e1⟩ := List.getElem?_eq_some_iff.1 h1
  obtain ⟨hj2, e2⟩ := List.getElem?_eq_some_iff.1 h2
  rw [List.take_succ_eq_append_getElem hj1, List.take_succ_eq_append_getElem hj2, h, e1, e2]
theorem ne_of_at {α : Type} {l1 l2 : List α} {j : Nat} {s t : α} (h1 : l1[j]? = some s) (h2 : l2[j]? = some t) (h : s ≠ t) : l1 ≠ l2 := fun e => by
  rw [e, h2] at h1
  cases h1
  exact h rfl
set_option maxRecDepth 100000 in
set_option maxHeartbeats 3200000 in
theorem sameInts_dec (a1 a2 : Option Addr) (n1 n2 c1 c2 : Nat) (l1 l2 : List Int) (hn1 : l1.length = n1) (hn2 : l2.length = n2) (hm1 : n1 ≤ maxLen) (hm2 : n2 ≤ maxLen) (w : World) (h1 : IntsIn w a1 l1) (h2 : IntsIn w a2 l2) :
    Calls Tryz.prog 83 #[.slice a1 n1 c1, .slice a2 n2 c2] w fun e w' => e = .returned (.bool (decide (l1 = l2))) ∧ Below w.heap.size w w' := by
  by_cases hne : n1 = n2
  · subst hne
    have hm3 : (n1 : Int) ≤ 9223372036854775807 := by unfold maxLen at hm1; omega
    have HZ := hid (And.intro h1 (And.intro h2 (And.intro hn1 hn2)))
    clear h1 h2 hn1 hn2 hm1 hm2
    go_enter Tryz.func83, Tryz.ntmps83
    go_wp2
    go_loopw [5] (fun i wr => ∃ j : Nat, j ≤ n1 ∧ i = .int .i64 (j : Int) ∧ Below w.heap.size w wr ∧ l1.take j = l2.take j)
      (fun i _ => ((n1 : Int) - intOf i).toNat)
    case atStart => exact ⟨0, by omega, rfl, Below.refl _ _, rfl⟩
    case round =>
      obtain ⟨j, hj, rfl, hbel, htk⟩ := hrel
      have HB := hid (And.intro hbel htk)
      clear hbel htk
      by_cases hjn : j = n1
      · have hj1 : ¬ ((j : Int) < (n1 : Int)) := by omega
        have HE : Hid (l1 = l2) := hid (by
          have := HB.out.2
          rw [List.take_of_length_le (by have := HZ.out.2.2.1; omega), List.take_of_length_le (by have := HZ.out.2.2.2; omega)] at this
          exact this)
        clear hj hjn
        go_wp2
        go_ret
        exact ⟨(congrArg (fun b => Ending.returned (.bool b)) (decide_eq_true HE.out)).symm, HB.out.1⟩
      · have hj1 : (j : Int) < (n1 : Int) := by omega
        have hj0 : (0 : Int) ≤ (j : Int) := Int.natCast_nonneg _
        obtain ⟨s, es⟩ : ∃ s, l1[j]? = some s := ⟨_, List.getElem?_eq_getElem (by rw [HZ.out.2.2.1]; omega)⟩
        obtain ⟨t, et⟩ : ∃ t, l2[j]? = some t := ⟨_, List.getElem?_eq_getElem (by rw [HZ.out.2.2.2]; omega)⟩
        obtain ⟨g1, off1, rfl, hg1, hcell1⟩ := HZ.out.1.at j s es
        obtain ⟨g2, off2, rfl, hg2, hcell2⟩ := HZ.out.2.1.at j t et
        have cz1 : wr.cell? ⟨g1, off1 + j, none⟩ = some (.int .i64 s) := (HB.out.1.cell (p := ⟨g1, off1 + j, none⟩) hg1).trans hcell1
        have cz2 : wr.cell? ⟨g2, off2 + j, none⟩ = some (.int .i64 t) := (HB.out.1.cell (p := ⟨g2, off2 + j, none⟩) hg2).trans hcell2
        have HS := hid (And.intro es et)
        clear es et hg1 hg2 hcell1 hcell2
        by_cases hst : s = t
        · subst hst
          go_wp2
          go_quiet (fail)
          go_wp2
          go_roundw
          case rel => exact ⟨j + 1, by omega, rfl, ⟨HB.out.1.os, HB.out.1.tape, HB.out.1.output, HB.out.1.size, HB.out.1.block⟩, take_grow HB.out.2 HS.out.1 HS.out.2⟩
          case measure => simp [intOf]; omega
        · have hstb : (s != t) = true := by simpa using hst
          have HN : Hid (l1 ≠ l2) := hid (ne_of_at HS.out.1 HS.out.2 hst)
          go_wp2
          go_quiet (fail)
          go_wp2
          go_ret
          exact ⟨(congrArg (fun b => Ending.returned (.bool b)) (decide_eq_false HN.out)).symm, ⟨HB.out.1.os, HB.out.1.tape, HB.out.1.output, HB.out.1.size, HB.out.1.block⟩⟩
  · have hz : ¬ ((n1 : Int) = (n2 : Int)) := by omega
    have HN : Hid (l1 ≠ l2) := hid (fun e => hne (by rw [← hn1, ← hn2, e]))
    clear hne hn1 hn2 h1 h2 hm1 hm2
    go_enter Tryz.func83, Tryz.ntmps83
    go_wp2
    go_ret
    exact ⟨(congrArg (fun b => Ending.returned (.bool b)) (decide_eq_false HN.out)).symm, Below.refl _ _⟩
end Go.Proofs.YthjgnfeadagmeaaGreat

/- The document's tracker: Take. -/
namespace Go.Proofs.YthjgnfeadagmeaaGreat
open Go.RowKit

/-- The j-th link of a chain in memory. -/
theorem lks_at {G : Nat → Prop} {w : World} {v : Value} {cs : List Lk} (h : Reads G w v (.l 3 (dLks cs))) (j : Nat) (k : Lk) (hj : cs[j]? = some k) :
    ∃ g off cap a1 c1 a2 c2, v = .slice (some ⟨g, off, none⟩) cs.length cap ∧ g < w.heap.size ∧ w.cell? ⟨g, off + j * 3, none⟩ = some (.int .i64 k.1) ∧ w.cell? ⟨g, off + j * 3 + 1, none⟩ = some (.slice a1 k.2.1.length c1) ∧ w.cell? ⟨g, off + j * 3 + 2, none⟩ = some (.slice a2 k.2.2.length c2) ∧ IntsIn w a1 k.2.1 ∧ PairsIn w a2 k.2.2 := by
  obtain ⟨g, off, cap, hv, _, hg, _, hc⟩ := h.at j (dLk k) (dLks_at hj)
  obtain ⟨u0, h0, r0⟩ := hc 0 (.i k.1) rfl
  obtain ⟨u1, h1, r1⟩ := hc 1 (dInts k.2.1) rfl
  obtain ⟨u2, h2, r2⟩ := hc 2 (dPairs k.2.2) rfl
  obtain ⟨a1, c1, e1, i1, _⟩ := reads_ints r1
  obtain ⟨a2, c2, e2, i2, _⟩ := reads_pairs r2
  rw [dLks_len] at hv
  exact ⟨g, off, cap, a1, c1, a2, c2, hv, hg, by rw [r0.int] at h0; exact h0, by rw [h1, e1], by rw [h2, e2], i1, i2⟩
theorem lks_form {G : Nat → Prop} {w : World} {v : Value} {cs : List Lk} (h : Reads G w v (.l 3 (dLks cs))) : ∃ ad cap, v = .slice ad cs.length cap := by
  obtain ⟨ad, cap, hv⟩ := h.form
  rw [dLks_len] at hv
  exact ⟨ad, cap, hv⟩

/-- What Add says of a link behind those. -/
def addE (ep : Int) (fm : List Int) (ls : List Lk) (k : Lk) : Int := validE (lastZ ep ls) (lastM fm ls) k.1 k.2.1 k.2.2
/-- The first error of a chain. -/
def chainE (ep : Int) (fm : List Int) : List Lk → List Lk → Int
  | _, [] => 0
  | pre, k :: cs => if addE ep fm pre k = 0 then chainE ep fm (pre ++ [k]) cs else addE ep fm pre k
/-- Do two chains tell other members of an epoch that both know? -/
def otherTo (ls cs : List Lk) (n : Nat) : Bool := (List.range n).any fun i => decide (i < cs.length ∧ i < ls.length) && !decide ((cs.getD i (0, [], [])).2.1 = (ls.getD i (0, [], [])).2.1)
/-- What Take says. -/
def takeE (ep : Int) (fm : List Int) (ls cs : List Lk) : Int :=
  if 64 < cs.length then 3 else if chainE ep fm [] cs ≠ 0 then chainE ep fm [] cs else if otherTo ls cs cs.length = true then 22 else if cs.length ≤ ls.length then 17 else 0
theorem chainE_step (ep : Int) (fm : List Int) (cs : List Lk) (j : Nat) (k : Lk) (h : cs[j]? = some k) (h0 : addE ep fm (cs.take j) k = 0) : chainE ep fm (cs.take (j + 1)) (cs.drop (j + 1)) = chainE ep fm (cs.take j) (cs.drop j) := by
  obtain ⟨hj, rfl⟩ := List.getElem?_eq_some_iff.1 h
  rw [List.drop_eq_getElem_cons hj, chainE, if_pos h0, List.take_succ_eq_append_getElem hj]
theorem chainE_stop (ep : Int) (fm : List Int) (cs : List Lk) (j : Nat) (k : Lk) (h : cs[j]? = some k) (h0 : addE ep fm (cs.take j) k ≠ 0) : chainE ep fm (cs.take j) (cs.drop j) = addE ep fm (cs.take j) k := by
  obtain ⟨hj, rfl⟩ := List.getElem?_eq_some_iff.1 h
  rw [List.drop_eq_getElem_cons hj, chainE, if_neg h0]
end Go.Proofs.YthjgnfeadagmeaaGreat

/- The document's tracker: Take, walked. -/
namespace Go.Proofs.YthjgnfeadagmeaaGreat
open Go.RowKit

theorem kept_of_below {b : Nat} {r : Option Nat} {w w' : World} (h : Below w.heap.size w w') : Kept b r w w' := ⟨h.os, h.tape, h.output, h.size, fun k hk _ _ => h.block k hk⟩
theorem otherTo_step {ls cs : List Lk} {p : Nat} {k1 k2 : Lk} (h1 : cs[p]? = some k1) (h2 : ls[p]? = some k2) : otherTo ls cs (p + 1) = (otherTo ls cs p || !decide (k1.2.1 = k2.2.1)) := by
  obtain ⟨hp1, e1⟩ := List.getElem?_eq_some_iff.1 h1
  obtain ⟨hp2, e2⟩ := List.getElem?_eq_some_iff.1 h2
  rw [otherTo, List.range_succ, List.any_append]
  simp [otherTo, List.getD_eq_getElem?_getD, hp1, hp2, e1, e2]
theorem otherTo_all {ls cs : List Lk} {p : Nat} (h : cs.length ≤ p ∨ ls.length ≤ p) (h0 : otherTo ls cs p = false) : otherTo ls cs cs.length = false := by
  rw [otherTo, List.any_eq_false] at h0 ⊢
  intro i hi hq
  rw [Bool.and_eq_true_iff] at hq
  have h3 := of_decide_eq_true hq.1
  exact h0 i (List.mem_range.2 (by omega)) (by rw [Bool.and_eq_true_iff]; exact hq)
theorem otherTo_up {ls cs : List Lk} {p : Nat} (hp : p ≤ cs.length) (h : otherTo ls cs p = true) : otherTo ls cs cs.length = true := by
  rw [otherTo, List.any_eq_true] at h ⊢
  obtain ⟨i, hi, hq⟩ := h
  exact ⟨i, List.mem_range.2 (by have := List.mem_range.1 hi; omega), hq⟩
theorem own_some {B : Nat} {F : Nat → Prop} {w : World} {v : Value} {ls : List Lk} {P : Prop} (h : OwnD 96 3 B F w v (dLks ls)) (ho : v.ownBlock = none) (hl : 0 < ls.length) : P := by
  obtain ⟨k, hk⟩ : ∃ k, ls[0]? = some k := ⟨_, List.getElem?_eq_getElem hl⟩
  obtain ⟨g, off, cap, hv, _⟩ := h.reads.at 0 (dLk k) (dLks_at hk)
  subst hv
  cases ho
end Go.Proofs.YthjgnfeadagmeaaGreat

/- The document's Same of configurations, of its own (so that it hangs on little). -/
namespace Go.Proofs.YthjgnfeadagmeaaGreat
open Go.RowKit

set_option maxRecDepth 100000 in
set_option maxHeartbeats 1600000 in
theorem vsame_eq (ep : Int) (a1 a2 : Option Addr) (n c1 c2 : Nat) (l : List Int) (hn : l.length = n) (hm : n ≤ maxLen) (w : World) (h1 : IntsIn w a1 l) (h2 : IntsIn w a2 l) :
    Calls Tryz.prog 79 #[.agg #[.int .i64 ep, .slice a1 n c1], .agg #[.int .i64 ep, .slice a2 n c2]] w fun e w' => e = .returned (.bool true) ∧ Below w.heap.size w w' := by
  have HC : Hid (∀ u : World, IntsIn u a1 l → IntsIn u a2 l → Calls Tryz.prog 83 #[.slice a1 n c1, .slice a2 n c2] u fun e w' => e = .returned (.bool true) ∧ Below u.heap.size u w') := hid (fun u k1 k2 => sameInts_any a1 a2 n c1 c2 l hn hm u k1 k2)
  have HI := hid (And.intro h1 h2)
  clear h1 h2 hn hm
  go_enter Tryz.func79, Tryz.ntmps79
  go_wp2_with (go_at_call 83; refine (HC.out _ (by exact (HI.out.1.alloc _).alloc _) (by exact (HI.out.2.alloc _).alloc _)).mono ?_; rintro e w1 ⟨rfl, hb1⟩; have H1 := hid ((((Below.refl w.heap.size w).alloc (Nat.le_refl _) _).alloc (by simp) _).trans (hb1.mono (by simp; omega))); clear hb1)
  go_ret
  exact ⟨rfl, H1.out⟩
end Go.Proofs.YthjgnfeadagmeaaGreat

/- The document's tracker: the same chains. -/
namespace Go.Proofs.YthjgnfeadagmeaaGreat
open Go.RowKit

end Go.Proofs.YthjgnfeadagmeaaGreat

/- A tracker of the program in memory, as the walks of the laws see it (trial: the contracts are told). -/
namespace Go.Proofs.YthjgnfeadagmeaaGreat
open Go.RowKit

/-- All blocks but those of O stay. -/
structure Outs (O : Nat → Prop) (w w' : World) : Prop where
  os : w'.os = w.os
  tape : w'.tape = w.tape
  output : w'.output = w.output
  size : w.heap.size ≤ w'.heap.size
  block : ∀ k, k < w.heap.size → ¬ O k → w'.heap[k]? = w.heap[k]?
theorem Outs.refl (O : Nat → Prop) (w : World) : Outs O w w := ⟨rfl, rfl, rfl, Nat.le_refl _, fun _ _ _ => rfl⟩
theorem Outs.trans {O O' : Nat → Prop} {x y z : World} (h : Outs O x y) (k : Outs O' y z) (hO : ∀ j, j < x.heap.size → O' j → O j) : Outs O x z :=
  ⟨k.os.trans h.os, k.tape.trans h.tape, k.output.trans h.output, Nat.le_trans h.size k.size, fun j hj hn => (k.block j (Nat.lt_of_lt_of_le hj h.size) (fun hq => hn (hO j hj hq))).trans (h.block j hj hn)⟩
theorem outs_of {O : Nat → Prop} {w w' : World} (h : Below w.heap.size w w') : Outs O w w' := ⟨h.os, h.tape, h.output, h.size, fun k hk _ => h.block k hk⟩
theorem Outs.below {O : Nat → Prop} {w w' : World} {B : Nat} (h : Outs O w w') (hB : B ≤ w.heap.size) (hO : ∀ k, O k → B ≤ k) : Below B w w' :=
  ⟨h.os, h.tape, h.output, h.size, fun k hk => h.block k (Nat.lt_of_lt_of_le hk hB) (fun hq => Nat.lt_irrefl _ (Nat.lt_of_lt_of_le hk (hO k hq)))⟩
/-- A list whose row lies in a block of its own, apart from what its items point to. -/
structure RowAt (sz : Nat) (F : Nat → Prop) (w : World) (v : Value) (es : List (List Dat)) : Prop where
  form : ∃ ad cap, v = .slice ad es.length cap
  item : ∀ (j : Nat) (e : List Dat), es[j]? = some e → ∃ g off cap, v = .slice (some ⟨g, off, none⟩) es.length cap ∧ ¬ F g ∧ g < w.heap.size ∧ e.length = sz ∧ ∀ (q : Nat) (d : Dat), e[q]? = some d → ∃ u, w.cell? ⟨g, off + j * sz + q, none⟩ = some u ∧ Reads F w u d
/-- The block of a list's row. -/
def rowOf : Value → Option Nat
  | .slice (some a) _ _ => some a.block
  | _ => none
theorem RowAt.keep {sz : Nat} {F : Nat → Prop} {w w' : World} {v : Value} {es : List (List Dat)} (h : RowAt sz F w v es) (hs : w.heap.size ≤ w'.heap.size) (hF : ∀ k, k < w.heap.size → F k → w'.heap[k]? = w.heap[k]?) (hr : ∀ g, g < w.heap.size → rowOf v = some g → w'.heap[g]? = w.heap[g]?) : RowAt sz F w' v es :=
  ⟨h.form, fun j e he => by
    obtain ⟨g, off, cap, hv, hg, hlt, hl, hc⟩ := h.item j e he
    refine ⟨g, off, cap, hv, hg, Nat.lt_of_lt_of_le hlt hs, hl, fun q d hd => ?_⟩
    obtain ⟨u, hu, hR⟩ := hc q d hd
    exact ⟨u, (World.cell?_of_block (a := ⟨g, _, none⟩) (hr g hlt (by rw [hv]; rfl))).trans hu, hR.keep hs hF⟩⟩
/-- One's own rows are such. -/
theorem OwnD.row {T : TypeId} {sz B : Nat} {F : Nat → Prop} {w : World} {v : Value} {es : List (List Dat)} (h : OwnD T sz B F w v es) : RowAt sz F w v es := by
  refine ⟨h.form, fun j e he => ?_⟩
  obtain ⟨cs, ho, hc⟩ := h.own
  rcases ho.2 with ⟨_, h0⟩ | ⟨g, cap, cur, hv, hB, hh, hnc, hcp, hcs, ht⟩
  · rw [List.length_eq_zero_iff.1 h0] at he
    cases he
  · subst hv
    refine ⟨g, 0, cap, rfl, h.sep g rfl, lt_of_blk hh, (hc j e he).1, fun q d hd => ?_⟩
    obtain ⟨u, h1, h2⟩ := (hc j e he).2 q d hd
    have := ho.cells (g := g) rfl _ _ h1
    rw [Addr.add_lit] at this
    rw [Nat.add_assoc]
    exact ⟨u, this, h2⟩
end Go.Proofs.YthjgnfeadagmeaaGreat

/- The library's calls that the council makes: Contains, BinarySearch, Insert, Delete, at lists of numbers. -/
namespace Go.Proofs.YthjgnfeadagmeaaGreat
open Go.RowKit

set_option maxRecDepth 100000 in
set_option maxHeartbeats 1600000 in
theorem index_any (a : Option Addr) (n cap : Nat) (l : List Int) (hn : l.length = n) (hm : n ≤ maxLen) (id : Int) (w : World) (hI : IntsIn w a l) :
    Calls Tryz.prog 63 #[.slice a n cap, .int .i64 id] w fun e w' => ∃ k : Int, e = .returned (.int .i64 k) ∧ decide (0 ≤ k) = hasM l id ∧ w' = w := by
  have hm2 : (n : Int) ≤ 9223372036854775807 := by unfold maxLen at hm; omega
  have HI := hid hI
  have HN := hid hn
  clear hI hm hn
  go_enter Tryz.func63, Tryz.ntmps63
  go_wp2
  go_loopw [8] (fun i wr => ∃ j : Nat, j ≤ n ∧ i = .int .i64 (j : Int) ∧ id ∉ l.take j ∧ wr = w)
    (fun i _ => ((n : Int) - intOf i).toNat)
  case atStart => exact ⟨0, by omega, rfl, by simp, rfl⟩
  case round =>
    obtain ⟨j, hj, rfl, hno, rfl⟩ := hrel
    by_cases hjn : j = n
    · have hj1 : ¬ ((j : Int) < (n : Int)) := by omega
      have HF : Hid (hasM l id = false) := hid (decide_eq_false (by rwa [List.take_of_length_le (by rw [HN.out]; omega)] at hno))
      clear hno hj hjn
      go_wp2
      go_ret
      exact ⟨-1, rfl, by rw [HF.out]; rfl, rfl⟩
    · have hj1 : (j : Int) < (n : Int) := by omega
      have hj0 : (0 : Int) ≤ (j : Int) := Int.natCast_nonneg _
      have hjl : j < l.length := by rw [HN.out]; omega
      obtain ⟨g, off, rfl, hg, cz⟩ := HI.out.at j _ (getD_some hjl)
      by_cases hx : l.getD j 0 = id
      · have HF : Hid (hasM l id = true) := hid (decide_eq_true (mem_of_get hx hjl))
        rw [hx] at cz
        clear hno hj hjn hx hjl hg
        go_wp2
        go_ret
        exact ⟨(j : Int), rfl, by rw [HF.out, decide_eq_true hj0], rfl⟩
      · have HF : Hid (id ∉ l.take (j + 1)) := hid (not_mem_snoc hno hx hjl)
        obtain ⟨x, ex⟩ : ∃ x, x = l.getD j 0 := ⟨_, rfl⟩
        rw [← ex] at cz hx
        have hx' : ¬ (id = x) := fun h => hx h.symm
        have HJ := hid (And.intro hj hjn)
        clear hno hj hjn hjl hg ex
        go_wp2
        go_roundw
        case rel => exact ⟨j + 1, by have := HJ.out; omega, by go_num, HF.out, by first | exact rfl | exact trivial⟩
        case measure => simp [intOf]; omega
theorem contains_any (a : Option Addr) (n cap : Nat) (l : List Int) (hn : l.length = n) (hm : n ≤ maxLen) (id : Int) (w : World) (hI : IntsIn w a l) :
    Calls Tryz.prog 36 #[.slice a n cap, .int .i64 id] w fun e w' => e = .returned (.bool (hasM l id)) ∧ w' = w := by
  have HC := hid (index_any a n cap l hn hm id w hI)
  clear hI hn hm
  go_enter Tryz.func36, Tryz.ntmps36
  go_wp2_with (go_at_call 63; refine (HC.out).mono ?_; rintro e wx ⟨k, rfl, hk, rfl⟩; have HK := hid hk; clear hk)
  go_ret
  exact ⟨by rw [← HK.out]; rfl, rfl⟩

def renL2n25 : Go.Shelf.Ren := ⟨fun | 25 => 123 | 31 => 152 | 32 => 153 | 37 => 168 | n => n, fun | 0 => 0 | 3 => 3 | 4 => 4 | 22 => 22 | 40 => 64 | n => n, fun | n => n⟩
theorem layL2n25 : Go.Proofs.Lays2.n25 Tryz.prog renL2n25 := {
  mixed := by kernel_rfl
  f25 := Tryz.func123.trans (congrArg some (by kernel_rfl))
  f31 := Tryz.func152.trans (congrArg some (by kernel_rfl))
  f32 := Tryz.func153.trans (congrArg some (by kernel_rfl))
  f37 := Tryz.func168.trans (congrArg some (by kernel_rfl))
  t0 := Tryz.underlying0
  a0 := Tryz.isAgg0
  z0 := Tryz.sizeOf0
  v0 := Tryz.zeroValue0
  t3 := Tryz.underlying3
  a3 := Tryz.isAgg3
  z3 := Tryz.sizeOf3
  v3 := Tryz.zeroValue3
  t4 := Tryz.underlying4
  a4 := Tryz.isAgg4
  z4 := Tryz.sizeOf4
  v4 := Tryz.zeroValue4
  t22 := Tryz.underlying22
  a22 := Tryz.isAgg22
  z22 := Tryz.sizeOf22
  v22 := Tryz.zeroValue22
  t40 := Tryz.underlying64
  a40 := Tryz.isAgg64
  z40 := Tryz.sizeOf64
  v40 := Tryz.zeroValue64 }

/-- How many of the members stand ahead of id. -/
def placeN (l : List Int) (id : Int) : Nat := l.countP (· < id)
theorem search_any (a : Option Addr) (n cap : Nat) (l : List Int) (hn : l.length = n) (hb : memB l = true) (id : Int) (w : World) (hI : IntsIn w a l) :
    Calls Tryz.prog 123 #[.slice a n cap, .int .i64 id] w fun e w' => e = .returned (.tuple #[.int .i64 (placeN l id : Int), .bool (hasM l id)]) ∧ Below w.heap.size w w' := by
  have hl := mem_len hb
  rcases hI with h | ⟨g, off, rfl, hg, hc⟩
  · rw [h] at hl; simp at hl
  · have h := Any.slices_BinarySearch_int layL2n25 g off n cap l id w (by omega) (by omega) (fun j hj => hc j _ (getD_some hj)) (by rw [← hn, List.take_length]; exact (mem_inc hb).imp (fun h => Int.le_of_lt h))
    refine h.mono ?_
    rintro e w' ⟨rfl, q, rfl⟩
    refine ⟨?_, ⟨rfl, rfl, rfl, Nat.le_refl _, fun _ _ => rfl⟩⟩
    rw [← hn, List.take_length, show l.contains id = hasM l id by rw [hasM, List.contains_eq_mem]]
    rfl
theorem place_cut (id : Int) : ∀ {l : List Int}, Inc l → (∀ x ∈ l.take (placeN l id), x < id) ∧ (∀ x ∈ l.drop (placeN l id), id ≤ x)
  | [], _ => by simp
  | y :: l, h => by
    obtain ⟨hy, hl⟩ := List.pairwise_cons.1 h
    by_cases e : y < id
    · have hp : placeN (y :: l) id = placeN l id + 1 := by rw [placeN, List.countP_cons_of_pos (by simpa using e)]; rfl
      obtain ⟨h1, h2⟩ := place_cut id hl
      rw [hp, List.take_succ_cons, List.drop_succ_cons]
      refine ⟨fun x hx => ?_, h2⟩
      rcases List.mem_cons.1 hx with rfl | hx
      · exact e
      · exact h1 x hx
    · have hp : placeN (y :: l) id = 0 := by
        rw [placeN, List.countP_eq_zero]
        intro x hx
        rcases List.mem_cons.1 hx with rfl | hx
        · simpa using e
        · have := hy x hx
          simp
          omega
      rw [hp]
      refine ⟨by simp, fun x hx => ?_⟩
      rcases List.mem_cons.1 (by simpa using hx) with rfl | hx
      · omega
      · have := hy x hx
        omega
theorem place_le (l : List Int) (id : Int) : placeN l id ≤ l.length := List.countP_le_length
/-- Who joins stands at his place. -/
theorem join_put {l : List Int} {id : Int} (hb : memB l = true) (h0 : 0 ≤ id ∧ id < 16) (hh : hasM l id = false) : joinTo l id 16 = l.take (placeN l id) ++ [id] ++ l.drop (placeN l id) := by
  have hi := mem_inc hb
  obtain ⟨h1, h2⟩ := place_cut id hi
  have hno := of_decide_eq_false hh
  refine inc_eq _ _ (joinTo_inc l id 16) ?_ (fun x => ?_)
  · rw [List.append_assoc]
    refine List.pairwise_append.2 ⟨hi.sublist (List.take_sublist _ _), List.pairwise_append.2 ⟨by simp, hi.sublist (List.drop_sublist _ _), fun x hx y hy => ?_⟩, fun x hx y hy => ?_⟩
    · obtain rfl := List.mem_singleton.1 hx
      have := h2 y hy
      have hne : y ≠ x := fun e => hno (e ▸ List.mem_of_mem_drop hy)
      omega
    · have h3 := h1 x hx
      rcases List.mem_append.1 hy with hy | hy
      · obtain rfl := List.mem_singleton.1 hy
        exact h3
      · have := h2 y hy
        omega
  · rw [join_mem hb h0 x]
    have hs : x ∈ l ↔ x ∈ l.take (placeN l id) ∨ x ∈ l.drop (placeN l id) := by rw [← List.mem_append, List.take_append_drop]
    rw [hs]
    simp only [List.mem_append, List.mem_singleton]
    constructor
    · rintro (h | h | h)
      · exact .inl (.inr h)
      · exact .inl (.inl h)
      · exact .inr h
    · rintro ((h | h) | h)
      · exact .inr (.inl h)
      · exact .inl h
      · exact .inr (.inr h)
theorem leave_cut (id : Int) : ∀ {l : List Int}, Inc l → id ∈ l → placeN l id < l.length ∧ leaveF l id = l.take (placeN l id) ++ l.drop (placeN l id + 1)
  | [], _, h => by simp at h
  | y :: l, h, hm => by
    obtain ⟨hy, hl⟩ := List.pairwise_cons.1 h
    by_cases e : y < id
    · have hp : placeN (y :: l) id = placeN l id + 1 := by rw [placeN, List.countP_cons_of_pos (by simpa using e)]; rfl
      have hm2 : id ∈ l := by
        rcases List.mem_cons.1 hm with rfl | h
        · omega
        · exact h
      obtain ⟨h1, h2⟩ := leave_cut id hl hm2
      rw [hp, List.take_succ_cons, List.drop_succ_cons]
      refine ⟨by simp; omega, ?_⟩
      rw [leaveF, List.filter_cons, if_pos (by simp; omega)]
      rw [leaveF] at h2
      rw [h2]
      rfl
    · have hye : y = id := by
        rcases List.mem_cons.1 hm with rfl | h
        · rfl
        · have := hy id h
          omega
      subst hye
      have hp : placeN (y :: l) y = 0 := by
        rw [placeN, List.countP_eq_zero]
        intro x hx
        rcases List.mem_cons.1 hx with rfl | hx
        · simp
        · have := hy x hx
          simp
          omega
      rw [hp]
      refine ⟨by simp, ?_⟩
      rw [leaveF, List.filter_cons, if_neg (by simp), List.filter_eq_self.2 (fun x hx => by have := hy x hx; simp; omega)]
      simp
theorem sets_blk {g : Nat} {t : TypeId} : ∀ (vs : List Value) (o : Nat) (w : World) (L : List Value), w.heap[g]? = some (.cells L.toArray t (0, 0)) → o + vs.length ≤ L.length → (w.setCells g o vs).heap[g]? = some (.cells (L.take o ++ vs ++ L.drop (o + vs.length)).toArray t (0, 0))
  | [], o, w, L, h, _ => by rw [List.append_nil, List.length_nil, Nat.add_zero, List.take_append_drop]; exact h
  | v :: vs, o, w, L, h, hl => by
    rw [List.length_cons] at hl
    have h1 := blk_set h o v
    rw [List.setIfInBounds_toArray] at h1
    have h2 := sets_blk vs (o + 1) (w.setCell ⟨g, o, none⟩ v) (L.set o v) h1 (by rw [List.length_set]; omega)
    refine h2.trans ?_
    congr 3
    have hlen : (L.take o).length = o := by rw [List.length_take]; omega
    have e1 : (L.set o v).take (o + 1) = L.take o ++ [v] := by
      rw [List.set_eq_take_append_cons_drop, if_pos (by omega), List.take_append, hlen, List.take_of_length_le (by omega), show o + 1 - o = 1 by omega]
      rfl
    have e2 : (L.set o v).drop (o + 1 + vs.length) = L.drop (o + (vs.length + 1)) := by
      rw [List.drop_set_of_lt (by omega), show o + 1 + vs.length = o + (vs.length + 1) by omega]
    rw [e1, e2, List.length_cons]
    simp
end Go.Proofs.YthjgnfeadagmeaaGreat

/- A list of signatures of one's own, and more of them behind it. -/
namespace Go.Proofs.YthjgnfeadagmeaaGreat
open Go.RowKit
theorem infoSg : (Tryz.prog.info? 87).map (fun i => (i.zero, i.size, i.bytes)) = some (some (.agg #[.int .i64 0, .string ⟨#[]⟩]), 2, 24) := by kernel_rfl

theorem own_pairsG {w : World} {B : Nat} {v : Value} {ps : List (Int × ByteArray)} {T : TypeId} (h : w.ownsRow B T 2 v ps.length (pC ps)) : ∃ ad cap, v = .slice ad ps.length cap ∧ PairsIn w ad ps := by
  rcases h.2 with ⟨hv, h0⟩ | ⟨g, cap, cur, hv, hB, hh, hx⟩
  · exact ⟨none, 0, by rw [hv, h0], .inl (List.eq_nil_of_length_eq_zero h0)⟩
  · refine ⟨_, cap, hv, .inr ⟨g, 0, rfl, lt_of_blk hh, fun j p hj => ?_⟩⟩
    subst hv
    have h1 := h.cells (g := g) rfl _ _ (pC_get ps j p hj).1
    have h2 := h.cells (g := g) rfl _ _ (pC_get ps j p hj).2
    rw [Addr.add_lit] at h1 h2
    exact ⟨h1, by rw [Nat.add_assoc]; exact h2⟩
/-! Sorting in place: all but the k-th of the first i + 1 rise. -/
theorem pC_twoG : ∀ (ps : List (Int × ByteArray)) (j : Nat) (u : Value), (pC ps)[j]? = some u → ∃ p, ps[j / 2]? = some p ∧ ((j % 2 = 0 ∧ u = .int .i64 p.1) ∨ (j % 2 = 1 ∧ u = .string p.2))
  | [], j, u, h => by simp [pC] at h
  | p :: ps, 0, u, h => by
    rw [pC_cons] at h
    simp at h
    exact ⟨p, by simp, .inl ⟨rfl, h.symm⟩⟩
  | p :: ps, 1, u, h => by
    rw [pC_cons] at h
    simp at h
    exact ⟨p, by simp, .inr ⟨rfl, h.symm⟩⟩
  | p :: ps, j + 2, u, h => by
    rw [pC_cons] at h
    simp at h
    obtain ⟨q, hq, hu⟩ := pC_twoG ps j u h
    refine ⟨q, ?_, ?_⟩
    · rw [show (j + 2) / 2 = j / 2 + 1 by omega]
      simpa using hq
    · rw [show (j + 2) % 2 = j % 2 by omega]
      exact hu
theorem pC_cellG (ps : List (Int × ByteArray)) : ∀ v ∈ pC ps, v.oneCell' = true := by
  intro v hv
  obtain ⟨j, hj, rfl⟩ := List.getElem_of_mem hv
  obtain ⟨p, _, h | h⟩ := pC_twoG ps j _ (List.getElem?_eq_getElem hj)
  · rw [h.2]; rfl
  · rw [h.2]; rfl
theorem pairs_cellsG {w : World} {ad : Addr} {ps : List (Int × ByteArray)} (h : PairsIn w (some ad) ps) (j : Nat) (u : Value) (hu : (pC ps)[j]? = some u) : w.cell? (ad.add j) = some u := by
  obtain ⟨p, hp, hu⟩ := pC_twoG ps j u hu
  obtain ⟨g, off, ha, hg, h0, h1⟩ := h.at (j / 2) p hp
  cases ha
  rw [Addr.add_lit]
  rcases hu with ⟨hj, rfl⟩ | ⟨hj, rfl⟩
  · rw [show off + j = off + j / 2 * 2 by omega]; exact h0
  · rw [show off + j = off + j / 2 * 2 + 1 by omega]; exact h1
/-- The slice v holds the signatures ps, in a row of its own; nothing below B has turned since w0. -/
structure OwnedG (B : Nat) (w0 w : World) (v : Value) (ps : List (Int × ByteArray)) : Prop where
  own : w.ownsRow B 87 2 v ps.length (pC ps)
  bel : Below B w0 w
  le : B ≤ w.heap.size
theorem OwnedG.nil {B : Nat} {w0 w : World} (h : Below B w0 w) (hB : B ≤ w.heap.size) : OwnedG B w0 w (.slice none 0 0) [] := ⟨⟨rfl, .inl ⟨rfl, rfl⟩⟩, h, hB⟩
theorem OwnedG.alloc {B : Nat} {w0 w : World} {v : Value} {l : List (Int × ByteArray)} (h : OwnedG B w0 w v l) (o : Obj) : OwnedG B w0 (w.alloc o) v l :=
  ⟨h.own.alloc o, h.bel.alloc h.le o, by have := h.le; simp; omega⟩
theorem OwnedG.grow {B : Nat} {w0 w w2 : World} {v v2 : Value} {l xs : List (Int × ByteArray)} {m : Nat} (h : OwnedG B w0 w v l) (hm : xs.length = m) (h2 : w2.ownsRow B 87 2 v2 (l.length + m) (pC l ++ pC xs)) (hg : w.grownBy w2 v.ownBlock) : OwnedG B w0 w2 v2 (l ++ xs) :=
  ⟨by rw [List.length_append, pC_app, hm]; exact h2, h.bel.grown hg h.le (fun k hk => (h.own.lt k hk).1), Nat.le_trans h.le hg.size⟩
theorem OwnedG.form {B : Nat} {w0 w : World} {v : Value} {l : List (Int × ByteArray)} (h : OwnedG B w0 w v l) (hl : 0 < l.length) : ∃ g cap, v = .slice (some ⟨g, 0, none⟩) l.length cap ∧ l.length ≤ cap ∧ cap ≤ maxLen ∧ g < w.heap.size ∧ B ≤ g ∧ PairsIn w (some ⟨g, 0, none⟩) l := by
  rcases h.own.2 with ⟨_, h0⟩ | ⟨g, cap, cur, hv, hb, hh, hnc, hcp, hcs, htake⟩
  · omega
  · obtain ⟨ad, c2, hv2, hp⟩ := own_pairsG h.own
    rw [hv] at hv2
    cases hv2
    exact ⟨g, cap, hv, hnc, hcp, lt_of_blk hh, hb, hp⟩
section
variable {o : Oper} {a : Act} {w : World} {Q : Exit → Act → World → Prop} {K : Act → World → Prop}
/-- More behind one's own. -/
theorem owp_sigs (x y : Operand) (ho : o.op = .call { callee := .builtin .append, args := #[x, y], argTypes := #[44, 44] }) (B : Nat) (w0 : World) (v : Value) (l : List (Int × ByteArray))
    (hx : a.eval x = v) (hO : OwnedG B w0 w v l) (ad : Option Addr) (n cap : Nat) (ps : List (Int × ByteArray)) (hy : a.eval y = .slice ad n cap) (hn : ps.length = n) (hS : PairsIn w ad ps) (hl : (l.length + n) * 24 ≤ 140737488355328)
    (h : ∀ v' w', Hid (OwnedG B w0 w' v' (l ++ ps)) → K (a.put o.dst v') w') : o.wp Tryz.prog a w K Q := by
  obtain ⟨i0, hi0, hz0, hz1, hz2⟩ := info_parts infoSg
  cases ad with
  | none =>
    obtain rfl : ps = [] := by rcases hS with h | ⟨g, off, ha, _⟩; exact h; cases ha
    obtain rfl : 0 = n := hn
    have hk := h v w (by rw [List.append_nil]; exact hO)
    rcases hO.own.2 with ⟨hv, h0⟩ | ⟨g, c, cur, hv, hB, hh, hnc, hcp, hcs, htake⟩
    · subst hv
      refine owp_value (v := .slice none 0 0) (w' := w) ?_ hk
      simp [execOp, ho, resolve, invoke, builtin, hx, hy, Builtin.append_, run_underlying Tryz.underlying44, sizeOf, typeInfo, hi0, Builtin.lenOf, Builtin.firstCells, Result.andThen]
    · subst hv
      refine owp_value (v := .slice (some ⟨g, 0, none⟩) l.length c) (w' := w) ?_ hk
      simp [hnc, storeCells, execOp, ho, resolve, invoke, builtin, hx, hy, Builtin.append_, run_underlying Tryz.underlying44, sizeOf, typeInfo, hi0, Builtin.lenOf, Builtin.firstCells, Result.andThen]
  | some ad =>
    refine wp_append_own w x y 44 ho B 87 i0 (.agg #[.int .i64 0, .string ⟨#[]⟩]) 2 24 Tryz.underlying44 hi0 hz0 hz1 hz2 rfl (by decide) v l.length (pC l) hx hO.own ad n cap (pC ps) hy (by rw [pC_len, hn]) (fun j v hv => pairs_cellsG hS j v hv) (pC_cellG ps) (by unfold maxLen; omega) (by omega) hO.le (fun v' w' hown hgrow _ => ?_)
    exact h _ _ (hO.grow hn hown hgrow)
theorem wl_sigs {ops : Array Oper} {rest : List Oper} {Q : Exit → Act → World → Prop} (hgd : o.guard = none) (x y : Operand) (ho : o.op = .call { callee := .builtin .append, args := #[x, y], argTypes := #[44, 44] }) (B : Nat) (w0 : World) (v : Value) (l : List (Int × ByteArray))
    (hx : a.eval x = v) (hO : OwnedG B w0 w v l) (ad : Option Addr) (n cap : Nat) (ps : List (Int × ByteArray)) (hy : a.eval y = .slice ad n cap) (hn : ps.length = n) (hS : PairsIn w ad ps) (hl : (l.length + n) * 24 ≤ 140737488355328)
    (h : ∀ v' w', Hid (OwnedG B w0 w' v' (l ++ ps)) → wpList Tryz.prog ops Q rest (a.put o.dst v') w') : wpList Tryz.prog ops Q (o :: rest) a w :=
  wpList_plain hgd fun _ hK => owp_sigs x y ho B w0 v l hx hO ad n cap ps hy hn hS hl fun v' w' h' => hK _ _ (h v' w' h')
end

/-- All signatures of a change, of a message. -/
def cgG (c : Cg) : List Sg := c.2.2.1.flatMap (fun x => x.2.2.2) ++ [c.2.2.2]
def tmG (m : Ms) : List Sg := m.sg ++ (m.cg.flatMap cgG ++ m.ln.flatMap (fun k => k.2))
theorem OwnedG.pairs {B : Nat} {w0 w : World} {v : Value} {l : List (Int × ByteArray)} (h : OwnedG B w0 w v l) : ∃ a cap, v = .slice a l.length cap ∧ PairsIn w a l ∧ ∀ x, a = some x → B ≤ x.block := by
  by_cases hl : 0 < l.length
  · obtain ⟨g, cap, hv, _, _, _, hB, hp⟩ := h.form hl
    exact ⟨_, cap, hv, hp, fun x hx => by cases hx; exact hB⟩
  · have h0 : l = [] := List.eq_nil_of_length_eq_zero (by omega)
    subst h0
    rcases h.own.2 with ⟨hv, _⟩ | ⟨g, cap, cur, hv, hB, _⟩
    · exact ⟨none, 0, hv, .inl rfl, fun x hx => by cases hx⟩
    · exact ⟨_, cap, hv, .inl rfl, fun x hx => by cases hx; exact hB⟩
end Go.Proofs.YthjgnfeadagmeaaGreat

/- The document's test of two lists of signatures, whatever they are. -/
namespace Go.Proofs.YthjgnfeadagmeaaGreat
open Go.RowKit

theorem text_neS {x y : ByteArray} (h : ¬ x = y) : (x.toList == y.toList) = false := by
  rw [beq_eq_false_iff_ne, ByteArray.toList_eq, ByteArray.toList_eq]
  intro he
  exact h (ByteArray.ext (Array.toList_inj.1 he))
theorem pairs_at {w : World} {a : Option Addr} {ps : List (Int × ByteArray)} (h : PairsIn w a ps) (j : Nat) (p : Int × ByteArray) (hp : ps[j]? = some p) : ∃ g off, a = some ⟨g, off, none⟩ ∧ g < w.heap.size ∧ w.cell? ⟨g, off + j * 2, none⟩ = some (.int .i64 p.1) ∧ w.cell? ⟨g, off + j * 2 + 1, none⟩ = some (.string p.2) := by
  rcases h with e | ⟨g, off, ha, hg, hc⟩
  · rw [e] at hp; cases hp
  · obtain ⟨k1, k2⟩ := hc j p hp
    exact ⟨g, off, ha, hg, k1, k2⟩
set_option maxRecDepth 100000 in
set_option maxHeartbeats 3200000 in
theorem wsame_dec (a1 a2 : Option Addr) (n1 n2 c1 c2 : Nat) (l1 l2 : List (Int × ByteArray)) (hn1 : l1.length = n1) (hn2 : l2.length = n2) (hm1 : n1 ≤ maxLen) (hm2 : n2 ≤ maxLen) (w : World) (h1 : PairsIn w a1 l1) (h2 : PairsIn w a2 l2) :
    Calls Tryz.prog 80 #[.slice a1 n1 c1, .slice a2 n2 c2] w fun e w' => e = .returned (.bool (decide (l1 = l2))) ∧ Below w.heap.size w w' := by
  by_cases hne : n1 = n2
  · subst hne
    have hm3 : (n1 : Int) ≤ 9223372036854775807 := by unfold maxLen at hm1; omega
    have HZ := hid (And.intro h1 (And.intro h2 (And.intro hn1 hn2)))
    clear h1 h2 hn1 hn2 hm1 hm2
    go_enter Tryz.func80, Tryz.ntmps80
    go_wp2
    go_loopw [5] (fun i wr => ∃ j : Nat, j ≤ n1 ∧ i = .int .i64 (j : Int) ∧ Below w.heap.size w wr ∧ l1.take j = l2.take j)
      (fun i _ => ((n1 : Int) - intOf i).toNat)
    case atStart => exact ⟨0, by omega, rfl, Below.refl _ _, rfl⟩
    case round =>
      obtain ⟨j, hj, rfl, hbel, htk⟩ := hrel
      have HB := hid (And.intro hbel htk)
      clear hbel htk
      by_cases hjn : j = n1
      · have hj1 : ¬ ((j : Int) < (n1 : Int)) := by omega
        have HE : Hid (l1 = l2) := hid (by
          have := HB.out.2
          rw [List.take_of_length_le (by have := HZ.out.2.2.1; omega), List.take_of_length_le (by have := HZ.out.2.2.2; omega)] at this
          exact this)
        clear hj hjn
        go_wp2
        go_ret
        exact ⟨(congrArg (fun b => Ending.returned (.bool b)) (decide_eq_true HE.out)).symm, HB.out.1⟩
      · have hj1 : (j : Int) < (n1 : Int) := by omega
        have hj0 : (0 : Int) ≤ (j : Int) := Int.natCast_nonneg _
        obtain ⟨s, es⟩ : ∃ s, l1[j]? = some s := ⟨_, List.getElem?_eq_getElem (by rw [HZ.out.2.2.1]; omega)⟩
        obtain ⟨t, et⟩ : ∃ t, l2[j]? = some t := ⟨_, List.getElem?_eq_getElem (by rw [HZ.out.2.2.2]; omega)⟩
        obtain ⟨g1, off1, rfl, hg1, hx1, hy1⟩ := pairs_at HZ.out.1 j s es
        obtain ⟨g2, off2, rfl, hg2, hx2, hy2⟩ := pairs_at HZ.out.2.1 j t et
        have cx1 : wr.cell? ⟨g1, off1 + j * 2, none⟩ = some (.int .i64 s.1) := (HB.out.1.cell (p := ⟨g1, off1 + j * 2, none⟩) hg1).trans hx1
        have cy1 : wr.cell? ⟨g1, off1 + j * 2 + 1, none⟩ = some (.string s.2) := (HB.out.1.cell (p := ⟨g1, off1 + j * 2 + 1, none⟩) hg1).trans hy1
        have cx2 : wr.cell? ⟨g2, off2 + j * 2, none⟩ = some (.int .i64 t.1) := (HB.out.1.cell (p := ⟨g2, off2 + j * 2, none⟩) hg2).trans hx2
        have cy2 : wr.cell? ⟨g2, off2 + j * 2 + 1, none⟩ = some (.string t.2) := (HB.out.1.cell (p := ⟨g2, off2 + j * 2 + 1, none⟩) hg2).trans hy2
        have HS := hid (And.intro es et)
        clear es et hg1 hg2 hx1 hy1 hx2 hy2
        by_cases hst : s = t
        · subst hst
          go_wp2
          go_quiet (fail)
          go_wp2
          go_roundw
          case rel => exact ⟨j + 1, by omega, rfl, ⟨HB.out.1.os, HB.out.1.tape, HB.out.1.output, HB.out.1.size, HB.out.1.block⟩, take_grow HB.out.2 HS.out.1 HS.out.2⟩
          case measure => simp [intOf]; omega
        · have HN : Hid (l1 ≠ l2) := hid (ne_of_at HS.out.1 HS.out.2 hst)
          by_cases hs1 : s.1 = t.1
          · have hs2 : ¬ s.2 = t.2 := fun e => hst (Prod.ext hs1 e)
            have hb1 : (s.1 == t.1) = true := by simpa using hs1
            have hb2 : (s.2.toList == t.2.toList) = false := text_neS hs2
            clear hs1 hst
            go_wp2
            go_quiet (fail)
            go_wp2
            go_ret
            exact ⟨(congrArg (fun b => Ending.returned (.bool b)) (decide_eq_false HN.out)).symm, ⟨HB.out.1.os, HB.out.1.tape, HB.out.1.output, HB.out.1.size, HB.out.1.block⟩⟩
          · have hb1 : (s.1 == t.1) = false := by simpa using hs1
            have hb3 : (s.1 != t.1) = true := by simpa using hs1
            clear hst
            go_wp2
            go_quiet (fail)
            go_wp2
            go_ret
            exact ⟨(congrArg (fun b => Ending.returned (.bool b)) (decide_eq_false HN.out)).symm, ⟨HB.out.1.os, HB.out.1.tape, HB.out.1.output, HB.out.1.size, HB.out.1.block⟩⟩
  · have hz : ¬ ((n1 : Int) = (n2 : Int)) := by omega
    have HN : Hid (l1 ≠ l2) := hid (fun e => hne (by rw [← hn1, ← hn2, e]))
    clear hne hn1 hn2 h1 h2 hm1 hm2
    go_enter Tryz.func80, Tryz.ntmps80
    go_wp2
    go_ret
    exact ⟨(congrArg (fun b => Ending.returned (.bool b)) (decide_eq_false HN.out)).symm, Below.refl _ _⟩
end Go.Proofs.YthjgnfeadagmeaaGreat

/- The contracts of the document's writer: texts. -/
namespace Go.Proofs.YthjgnfeadagmeaaGreat
open Go.RowKit

set_option maxRecDepth 100000 in
set_option maxHeartbeats 1600000 in
theorem mtext_in (c : Nat) (v : Value) (lim : Int) (l : List UInt8) (er : Int) (s : ByteArray) (w : World) (h : MwAt w c v lim l er)
    (h0 : 0 ≤ lim) (h1 : lim ≤ 9223372036854775807) (hl : l.length + (s.size + 10) ≤ 140737488355328) (hs : s.size ≤ 65535) (E : Int) (hE : adm lim l.length er true (2 + s.size : Nat) = E) (L : List UInt8) (hL : (if E = 0 then l ++ (be 2 s.size ++ s.data.toList) else l) = L) :
    Calls Tryz.prog 75 #[.pointer (some ⟨c, 0, none⟩), .string s] w fun e w' => e = .returned (.tuple #[]) ∧ ∃ v', MwAt w' c v' lim L E ∧ Kept c v.ownBlock w w' ∧ Moved w v v' := by
  obtain ⟨i0, hi0, hz0, hz1, hz2⟩ := info_parts Tryz.info5
  have HH := hid h
  have HC := hid (big_any s.size 2 w (by omega) (by omega))
  have HL := hid hL
  have HE := hid hE
  have hsi : (s.size : Int) ≤ 65535 := by omega
  have hd : s.data.toList.length = s.size := by rw [Array.length_toList]; rfl
  have HD := hid hd
  clear h hL hE hd hs
  go_enter Tryz.func75, Tryz.ntmps75
  go_wp2_with fail
  refine HC.out.mono ?_
  rintro e w1 ⟨rfl, hb1, hbel⟩
  have ho : w1.ownsRow w.heap.size 5 1 (.slice (some ⟨w.heap.size, 0, none⟩) 2 2) 2 (bC (be 2 s.size)) :=
    ⟨by rw [bC_len, be_len], .inr ⟨w.heap.size, 2, _, rfl, Nat.le_refl _, hb1, Nat.le_refl _, by decide, by simp [bC_len, be_len], by rw [List.toList_toArray, List.take_of_length_le (by rw [bC_len, be_len]; decide)]⟩⟩
  have HB := hid hbel
  have hz := hbel.size
  clear hb1 hbel
  go_wp2_with (at_builtin; refine wpList_append_str _ rfl _ _ rfl w.heap.size i0 hi0 hz0 hz1 hz2 _ 2 (bC (be 2 s.size)) rfl ho s rfl (by omega) hz ?_)
  intro v2 w2 hown2 hgrow hat
  obtain ⟨g, cap, hv2, hg2, -⟩ := hown2.form (by omega)
  have hbel2 : Below w.heap.size w w2 := HB.out.grown hgrow hz (fun k hk => by simp [Value.ownBlock] at hk; omega)
  have hsrc : ∀ j u, (bC (be 2 s.size ++ s.data.toList))[j]? = some u → w2.cell? ⟨g, j, none⟩ = some u := by
    intro j u hj
    rw [bC_app] at hj
    have := hown2.cells (g := g) (by rw [hv2]; rfl) j u hj
    rwa [Addr.add_lit, Nat.zero_add] at this
  have HP := hid (mput_len c v lim l er g cap (be 2 s.size ++ s.data.toList) (2 + s.size) (by rw [List.length_append, be_len, HD.out]) w2 (HH.out.above hbel2) h0 h1 (by omega) hsrc)
  rw [HE.out, HL.out] at HP
  have HK := hid (show Kept c v.ownBlock w w2 from ⟨hbel2.os, hbel2.tape, hbel2.output, hbel2.size, fun j hj _ _ => hbel2.block j hj⟩)
  rw [hv2]
  clear hown2 hgrow hat hbel2 hsrc hv2 ho
  go_wp2_with fail
  refine HP.out.mono ?_
  rintro e w3 ⟨rfl, v3, hx3, hk3, hm3⟩
  have H3 := hid (And.intro hx3 (And.intro (HK.out.trans hk3 (.inl rfl)) ((Moved.refl w v).trans hm3 HK.out.size)))
  clear hx3 hk3 hm3
  go_wp2
  go_end0
  exact ⟨rfl, v3, H3.out⟩

set_option maxHeartbeats 800000 in
theorem mtext_out (c : Nat) (v : Value) (lim : Int) (l : List UInt8) (er : Int) (s : ByteArray) (w : World) (h : MwAt w c v lim l er) (hs : (65535 : Int) < s.size) (E : Int) (hE : adm lim l.length er false (2 + s.size) = E) :
    Calls Tryz.prog 75 #[.pointer (some ⟨c, 0, none⟩), .string s] w fun e w' => e = .returned (.tuple #[]) ∧ ∃ v', MwAt w' c v' lim l E ∧ Kept c v.ownBlock w w' ∧ Moved w v v' := by
  have HC := hid (mput_bad c v lim l er (2 + s.size) w h)
  rw [hE] at HC
  clear h hE
  go_enter Tryz.func75, Tryz.ntmps75
  go_wp2_with fail
  refine HC.out.mono ?_
  rintro e w1 ⟨rfl, hx1, hk1⟩
  have H1 := hid (And.intro hx1 (kept_none (r := v.ownBlock) hk1))
  clear hx1 hk1
  go_wp2
  first | go_end0 | refine bodyPost_ret (results_none rfl _ _ _) rfl ?_
  exact ⟨rfl, v, H1.out.1, H1.out.2, Moved.refl _ _⟩

theorem mtext_w (c : Nat) (v : Value) (lim : Int) (l : List UInt8) (er : Int) (s : ByteArray) (w : World) (h : MwAt w c v lim l er)
    (h0 : 0 ≤ lim) (h1 : lim ≤ 9223372036854775807) (hl : l.length + (s.size + 10) ≤ 140737488355328) :
    Calls Tryz.prog 75 #[.pointer (some ⟨c, 0, none⟩), .string s] w fun e w' => e = .returned (.tuple #[]) ∧ ∃ v', MwAt w' c v' lim (xL lim l er s) (xE lim l er s) ∧ Kept c v.ownBlock w w' ∧ Moved w v v' := by
  by_cases hs : s.size ≤ 65535
  · have e : xE lim l er s = adm lim l.length er true (2 + s.size : Nat) := by simp [xE, hs]
    exact mtext_in c v lim l er s w h h0 h1 hl hs _ e.symm _ rfl
  · have e : xE lim l er s = adm lim l.length er false (2 + s.size) := by simp [xE, hs]
    have hd : ¬ xE lim l er s = 0 := by rw [e]; unfold adm; split <;> simp_all
    rw [xL, if_neg hd]
    exact mtext_out c v lim l er s w h (by omega) _ e.symm
end Go.Proofs.YthjgnfeadagmeaaGreat

/- The document's writer, as the walks of its users see it: what lies in it, numbers, bits, texts put to it, its end. -/
namespace Go.Proofs.YthjgnfeadagmeaaGreat
open Go.RowKit

/-- The document's writer at block c, with room for lim, and l in it; nothing below c has turned since w0. -/
def TxAt (lim : Int) (c : Nat) (w0 w : World) (l : List UInt8) : Prop := (∃ v, MwAt w c v lim l 0) ∧ Below c w0 w
theorem wLx (lim : Int) (l : List UInt8) (s n : Nat) (hn : n < 256 ^ s) (hl : (l.length : Int) + s ≤ lim) : wL lim l 0 s (n : Int) = l ++ be s n ∧ wE lim l 0 s (n : Int) = 0 := by
  have h : adm lim l.length 0 (inR s (n : Int)) s = 0 := by
    have hi : inR s (n : Int) = true := by
      unfold inR
      exact decide_eq_true ⟨Int.natCast_nonneg _, by exact_mod_cast hn⟩
    rw [hi]
    unfold adm
    rw [if_pos rfl, if_pos rfl, if_neg (by omega)]
  exact ⟨by rw [wL, if_pos h, Int.toNat_natCast], by rw [wE, h]⟩
theorem txnum (lim : Int) (h0 : 0 ≤ lim) (h1 : lim ≤ 4294967296) (c : Nat) (w0 w : World) (l : List UInt8) (n s : Nat) (hs : s ≤ 4) (hn : n < 256 ^ s) (hl : (l.length : Int) + s ≤ lim) (h : TxAt lim c w0 w l) :
    Calls Tryz.prog 73 #[.pointer (some ⟨c, 0, none⟩), .int .i64 (n : Int), .int .i64 (s : Int)] w fun e w' => e = .returned (.tuple #[]) ∧ TxAt lim c w0 w' (l ++ be s n) := by
  obtain ⟨⟨v, hv⟩, hb⟩ := h
  refine (mnum_w c v lim l 0 n s hs w hv h0 (by omega) (by omega)).mono ?_
  rintro e w' ⟨rfl, v', h', hk, _⟩
  rw [(wLx lim l s n hn hl).1, (wLx lim l s n hn hl).2] at h'
  exact ⟨rfl, ⟨v', h'⟩, hb.trans (hk.below (Nat.le_of_lt hv.lt) (Nat.le_refl _) (fun g hg => by have := (hv.own.lt g hg).1; omega))⟩
theorem txnew (lim : Int) (h0 : 0 ≤ lim) (w : World) : Calls Tryz.prog 72 #[.int .i64 lim] w fun e w' => e = .returned (.pointer (some ⟨w.heap.size, 0, none⟩)) ∧ TxAt lim w.heap.size w w' [] := by
  refine (mnew_any lim w).mono ?_
  rintro e w' ⟨rfl, rfl⟩
  rw [show max lim 0 = lim by omega]
  exact ⟨rfl, ⟨_, ⟨heap_alloc_last w _, ⟨rfl, .inl ⟨rfl, rfl⟩⟩⟩⟩, (Below.refl _ _).alloc (Nat.le_refl _) _⟩
theorem xLx (lim : Int) (l : List UInt8) (s : ByteArray) (hs : s.size ≤ 65535) (hl : (l.length : Int) + (2 + s.size) ≤ lim) : xL lim l 0 s = l ++ (be 2 s.size ++ s.data.toList) ∧ xE lim l 0 s = 0 := by
  have h : xE lim l 0 s = 0 := by
    unfold xE adm
    rw [if_pos rfl, decide_eq_true hs, if_pos rfl, if_neg (by omega)]
  exact ⟨by rw [xL, if_pos h], h⟩
theorem txtext (lim : Int) (h0 : 0 ≤ lim) (h1 : lim ≤ 4294967296) (c : Nat) (w0 w : World) (l : List UInt8) (s : ByteArray) (hs : s.size ≤ 65535) (hl : (l.length : Int) + (2 + s.size) ≤ lim) (h : TxAt lim c w0 w l) :
    Calls Tryz.prog 75 #[.pointer (some ⟨c, 0, none⟩), .string s] w fun e w' => e = .returned (.tuple #[]) ∧ TxAt lim c w0 w' (l ++ (be 2 s.size ++ s.data.toList)) := by
  obtain ⟨⟨v, hv⟩, hb⟩ := h
  refine (mtext_w c v lim l 0 s w hv h0 (by omega) (by omega)).mono ?_
  rintro e w' ⟨rfl, v', h', hk, _⟩
  rw [(xLx lim l s hs hl).1, (xLx lim l s hs hl).2] at h'
  exact ⟨rfl, ⟨v', h'⟩, hb.trans (hk.below (Nat.le_of_lt hv.lt) (Nat.le_refl _) (fun g hg => by have := (hv.own.lt g hg).1; omega))⟩
theorem bLx (lim : Int) (l : List UInt8) (n : Nat) (hl : (l.length : Int) + 8 ≤ lim) : bL lim l 0 n = l ++ be 8 n ∧ bE lim l 0 = 0 := by
  have h : bE lim l 0 = 0 := by
    unfold bE adm
    rw [if_pos rfl, if_pos rfl, if_neg (by omega)]
  exact ⟨by rw [bL, if_pos h], h⟩
theorem txbits (lim : Int) (h0 : 0 ≤ lim) (h1 : lim ≤ 4294967296) (c : Nat) (w0 w : World) (l : List UInt8) (n : Nat) (hn : n < 18446744073709551616) (hl : (l.length : Int) + 8 ≤ lim) (h : TxAt lim c w0 w l) :
    Calls Tryz.prog 88 #[.pointer (some ⟨c, 0, none⟩), .int .u64 (n : Int)] w fun e w' => e = .returned (.tuple #[]) ∧ TxAt lim c w0 w' (l ++ be 8 n) := by
  obtain ⟨⟨v, hv⟩, hb⟩ := h
  refine (mbits_w c v lim l 0 n w hv h0 (by omega) (by omega) hn).mono ?_
  rintro e w' ⟨rfl, v', h', hk, _⟩
  rw [(bLx lim l n hl).1, (bLx lim l n hl).2] at h'
  exact ⟨rfl, ⟨v', h'⟩, hb.trans (hk.below (Nat.le_of_lt hv.lt) (Nat.le_refl _) (fun g hg => by have := (hv.own.lt g hg).1; omega))⟩
theorem txdone (lim : Int) (c : Nat) (w0 w : World) (l : List UInt8) (h : TxAt lim c w0 w l) :
    Calls Tryz.prog 78 #[.pointer (some ⟨c, 0, none⟩)] w fun e w' => e = .returned (.tuple #[.string ⟨l.toArray⟩, .int .i64 0]) ∧ Below c w0 w' := by
  obtain ⟨⟨v, hv⟩, hb⟩ := h
  refine (mdone_ok c v lim l w hv).mono ?_
  rintro e w' ⟨rfl, rfl⟩
  exact ⟨rfl, hb⟩
/-- .. with whatever error. -/
def TeAt (lim : Int) (c : Nat) (w0 w : World) (l : List UInt8) (er : Int) : Prop := (∃ v, MwAt w c v lim l er) ∧ Below c w0 w
theorem TxAt.te {lim : Int} {c : Nat} {w0 w : World} {l : List UInt8} (h : TxAt lim c w0 w l) : TeAt lim c w0 w l 0 := h
theorem tenum (lim : Int) (h0 : 0 ≤ lim) (h1 : lim ≤ 4294967296) (c : Nat) (w0 w : World) (l : List UInt8) (er n : Int) (s : Nat) (hs : s ≤ 4) (hl : l.length ≤ 4294967296) (h : TeAt lim c w0 w l er) :
    Calls Tryz.prog 73 #[.pointer (some ⟨c, 0, none⟩), .int .i64 n, .int .i64 (s : Int)] w fun e w' => e = .returned (.tuple #[]) ∧ TeAt lim c w0 w' (wL lim l er s n) (wE lim l er s n) := by
  obtain ⟨⟨v, hv⟩, hb⟩ := h
  refine (mnum_w c v lim l er n s hs w hv h0 (by omega) (by omega)).mono ?_
  rintro e w' ⟨rfl, v', h', hk, _⟩
  exact ⟨rfl, ⟨v', h'⟩, hb.trans (hk.below (Nat.le_of_lt hv.lt) (Nat.le_refl _) (fun g hg => by have := (hv.own.lt g hg).1; omega))⟩
def teT (l : List UInt8) (er : Int) : ByteArray := if er = 0 then ⟨l.toArray⟩ else ⟨#[]⟩
theorem tedone (lim : Int) (c : Nat) (w0 w : World) (l : List UInt8) (er : Int) (h : TeAt lim c w0 w l er) :
    Calls Tryz.prog 78 #[.pointer (some ⟨c, 0, none⟩)] w fun e w' => e = .returned (.tuple #[.string (teT l er), .int .i64 er]) ∧ Below c w0 w' := by
  by_cases he : er = 0
  · subst he
    exact txdone lim c w0 w l h
  · obtain ⟨⟨v, hv⟩, hb⟩ := h
    rw [teT, if_neg he]
    refine (mdone_err c v lim l er w hv (by simpa using he)).mono ?_
    rintro e w' ⟨rfl, rfl⟩
    exact ⟨rfl, hb.drew⟩
end Go.Proofs.YthjgnfeadagmeaaGreat

/- The program's writer, as the walks of its users see it: what lies in it, numbers, bits, texts put to it, its end. -/
namespace Go.Proofs.YthjgnfeadagmeaaGreat
open Go.RowKit

/-- The program's writer at block c, with room for lim, l in it, its error er; nothing below c has turned since w0. -/
def PeAt (lim : Int) (c : Nat) (w0 w : World) (l : List UInt8) (er : Int) : Prop := (∃ v, WrAt w c v lim l er) ∧ Below c w0 w
/-- .. with no error. -/
def PwAt (lim : Int) (c : Nat) (w0 w : World) (l : List UInt8) : Prop := (∃ v, WrAt w c v lim l 0) ∧ Below c w0 w
theorem PwAt.pe {lim : Int} {c : Nat} {w0 w : World} {l : List UInt8} (h : PwAt lim c w0 w l) : PeAt lim c w0 w l 0 := h
theorem pwnew (lim : Int) (h0 : 0 ≤ lim) (w : World) : Calls Tryz.prog 66 #[.int .i64 lim] w fun e w' => e = .returned (.pointer (some ⟨w.heap.size, 0, none⟩)) ∧ PwAt lim w.heap.size w w' [] := by
  refine (new_any lim w).mono ?_
  rintro e w' ⟨rfl, rfl⟩
  rw [show max lim 0 = lim by omega]
  exact ⟨rfl, ⟨_, ⟨heap_alloc_last w _, ⟨rfl, .inl ⟨rfl, rfl⟩⟩⟩⟩, (Below.refl _ _).alloc (Nat.le_refl _) _⟩
theorem pwbyte (lim : Int) (h0 : 0 ≤ lim) (h1 : lim ≤ 4294967296) (c : Nat) (w0 w : World) (l : List UInt8) (n : Nat) (hn : n < 256) (hl : (l.length : Int) + 1 ≤ lim) (h : PwAt lim c w0 w l) :
    Calls Tryz.prog 114 #[.pointer (some ⟨c, 0, none⟩), .int .i64 (n : Int)] w fun e w' => e = .returned (.tuple #[]) ∧ PwAt lim c w0 w' (l ++ be 1 n) := by
  obtain ⟨⟨v, hv⟩, hb⟩ := h
  refine (wbyte_any c v lim l 0 n w hv h0 (by omega) (by omega) (by omega)).mono ?_
  rintro e w' ⟨rfl, v', h', hk, _⟩
  rw [(wLx lim l 1 n (by omega) hl).1, (wLx lim l 1 n (by omega) hl).2] at h'
  exact ⟨rfl, ⟨v', h'⟩, hb.trans (hk.below (Nat.le_of_lt hv.lt) (Nat.le_refl _) (fun g hg => by have := (hv.own.lt g hg).1; omega))⟩
theorem pwlong (lim : Int) (h0 : 0 ≤ lim) (h1 : lim ≤ 4294967296) (c : Nat) (w0 w : World) (l : List UInt8) (n : Nat) (hn : n < 4294967296) (hl : (l.length : Int) + 4 ≤ lim) (h : PwAt lim c w0 w l) :
    Calls Tryz.prog 157 #[.pointer (some ⟨c, 0, none⟩), .int .i64 (n : Int)] w fun e w' => e = .returned (.tuple #[]) ∧ PwAt lim c w0 w' (l ++ be 4 n) := by
  obtain ⟨⟨v, hv⟩, hb⟩ := h
  refine (wlong_any c v lim l 0 n w hv h0 (by omega) (by omega) (by omega)).mono ?_
  rintro e w' ⟨rfl, v', h', hk, _⟩
  rw [(wLx lim l 4 n (by omega) hl).1, (wLx lim l 4 n (by omega) hl).2] at h'
  exact ⟨rfl, ⟨v', h'⟩, hb.trans (hk.below (Nat.le_of_lt hv.lt) (Nat.le_refl _) (fun g hg => by have := (hv.own.lt g hg).1; omega))⟩
theorem pelong (lim : Int) (h0 : 0 ≤ lim) (h1 : lim ≤ 4294967296) (c : Nat) (w0 w : World) (l : List UInt8) (er n : Int) (hn : n ≤ 9223372036854775807) (hl : l.length ≤ 4294967296) (h : PeAt lim c w0 w l er) :
    Calls Tryz.prog 157 #[.pointer (some ⟨c, 0, none⟩), .int .i64 n] w fun e w' => e = .returned (.tuple #[]) ∧ PeAt lim c w0 w' (wL lim l er 4 n) (wE lim l er 4 n) := by
  obtain ⟨⟨v, hv⟩, hb⟩ := h
  refine (wlong_any c v lim l er n w hv h0 (by omega) (by omega) hn).mono ?_
  rintro e w' ⟨rfl, v', h', hk, _⟩
  exact ⟨rfl, ⟨v', h'⟩, hb.trans (hk.below (Nat.le_of_lt hv.lt) (Nat.le_refl _) (fun g hg => by have := (hv.own.lt g hg).1; omega))⟩
theorem pwtext (lim : Int) (h0 : 0 ≤ lim) (h1 : lim ≤ 4294967296) (c : Nat) (w0 w : World) (l : List UInt8) (s : ByteArray) (hs : s.size ≤ 65535) (hl : (l.length : Int) + (2 + s.size) ≤ lim) (h : PwAt lim c w0 w l) :
    Calls Tryz.prog 117 #[.pointer (some ⟨c, 0, none⟩), .string s] w fun e w' => e = .returned (.tuple #[]) ∧ PwAt lim c w0 w' (l ++ (be 2 s.size ++ s.data.toList)) := by
  obtain ⟨⟨v, hv⟩, hb⟩ := h
  refine (wtext_any c v lim l 0 s w hv h0 (by omega) (by omega) (by omega) (fun _ => by omega)).mono ?_
  rintro e w' ⟨rfl, v', h', hk, _⟩
  rw [(xLx lim l s hs hl).1, (xLx lim l s hs hl).2] at h'
  exact ⟨rfl, ⟨v', h'⟩, hb.trans (hk.below (Nat.le_of_lt hv.lt) (Nat.le_refl _) (fun g hg => by have := (hv.own.lt g hg).1; omega))⟩
theorem pwbits (lim : Int) (h0 : 0 ≤ lim) (h1 : lim ≤ 4294967296) (c : Nat) (w0 w : World) (l : List UInt8) (n : Nat) (hn : n < 18446744073709551616) (hl : (l.length : Int) + 8 ≤ lim) (h : PwAt lim c w0 w l) :
    Calls Tryz.prog 143 #[.pointer (some ⟨c, 0, none⟩), .int .u64 (n : Int)] w fun e w' => e = .returned (.tuple #[]) ∧ PwAt lim c w0 w' (l ++ be 8 n) := by
  obtain ⟨⟨v, hv⟩, hb⟩ := h
  refine (wbits_any c v lim l 0 n w hv h0 (by omega) (by omega) hn).mono ?_
  rintro e w' ⟨rfl, v', h', hk, _⟩
  rw [(bLx lim l n hl).1, (bLx lim l n hl).2] at h'
  exact ⟨rfl, ⟨v', h'⟩, hb.trans (hk.below (Nat.le_of_lt hv.lt) (Nat.le_refl _) (fun g hg => by have := (hv.own.lt g hg).1; omega))⟩
theorem pwdone (lim : Int) (c : Nat) (w0 w : World) (l : List UInt8) (h : PwAt lim c w0 w l) :
    Calls Tryz.prog 68 #[.pointer (some ⟨c, 0, none⟩)] w fun e w' => e = .returned (.tuple #[.string ⟨l.toArray⟩, .int .i64 0]) ∧ Below c w0 w' := by
  obtain ⟨⟨v, hv⟩, hb⟩ := h
  refine (done_ok c v lim l w hv).mono ?_
  rintro e w' ⟨rfl, rfl⟩
  exact ⟨rfl, hb⟩
theorem pedone (lim : Int) (c : Nat) (w0 w : World) (l : List UInt8) (er : Int) (he : er ≠ 0) (h : PeAt lim c w0 w l er) :
    Calls Tryz.prog 68 #[.pointer (some ⟨c, 0, none⟩)] w fun e w' => e = .returned (.tuple #[.string ⟨#[]⟩, .int .i64 er]) ∧ Below c w0 w' := by
  obtain ⟨⟨v, hv⟩, hb⟩ := h
  refine (done_err c v lim l er w hv (by simpa using he)).mono ?_
  rintro e w' ⟨rfl, rfl⟩
  exact ⟨rfl, hb.drew⟩
end Go.Proofs.YthjgnfeadagmeaaGreat
