/- Texts laid together: BaD BaE VoM ClI BaO RlC DsC DsS VoT. -/
import Derived.Test.YtclfphffbfdimaaKb1
import Derived.OrdersHeld
import Derived.Maps.OwnSet
import Derived.Maps.RangeWalk
import Derived.DeepKeys4
import Derived.Lib.SliceRun
import Derived.Test.YtclfphffbfdimaaKa1
import Derived.Deep.MidRow
/- What all families of texts share: one operation that is ready in a region that draws. -/
namespace Go.Proofs.Ytclfphffbfdimaa
open Go.RowKit

section
variable {P : Program} {ops : Array Oper} {o : Oper} {a : Act} {w : World} {K : Act → World → Prop} {Q : Exit → Act → World → Prop}
theorem wpOp_q {i : Nat} (hi : ops[i]? = some o) (hgd : o.guard = none) (h : ∀ K' : Act → World → Prop, (∀ a w, K a w → K' a w) → o.wp P a w K' Q) : wpOp P ops Q i K a w := by
  unfold Go.wpOp
  simp only [hi]
  have hw : Region.wanted o (yielded ops a.tmps) = true := by simp [Region.wanted, hgd]
  simp only [hw, if_true]
  exact .inl (h K (fun _ _ h => h))
end
end Go.Proofs.Ytclfphffbfdimaa

/- What all families of texts share: results that live in a variable; rows of one's own beside a store elsewhere. -/
namespace Go.Proofs.Ytclfphffbfdimaa
open Go.RowKit

theorem ret_pair {f : Func} {a : Act} {w : World} {Q : Ending → World → Prop} {s s2 : Nat} {t : TypeId} {ad : Addr} {v v2 : Value} (hr : f.results = #[.cell s t, .tmp s2]) (hs : a.tmps.getD s undef = .pointer (some ad)) (hl : (loadVar t ad).run Try.prog w = .ok v w) (h2 : a.tmps.getD s2 undef = v2) (hd : a.defers = [])
    (h : Q (.returned (.tuple #[v, v2])) w) : bodyPost Try.prog f Q .ret a w := by
  refine bodyPost_ret (v := .tuple #[v, v2]) ?_ hd h
  have h1 : a.tmps.getD s undef = .pointer (some ad) := hs
  simp [results, hr, -Array.getD_eq_getD_getElem?, h1, h2, asAddr, hl]
theorem ret_three {f : Func} {a : Act} {w : World} {Q : Ending → World → Prop} {s s2 s3 : Nat} {t : TypeId} {ad : Addr} {v v2 v3 : Value} (hr : f.results = #[.cell s t, .tmp s2, .tmp s3]) (hs : a.tmps.getD s undef = .pointer (some ad)) (hl : (loadVar t ad).run Try.prog w = .ok v w) (h2 : a.tmps.getD s2 undef = v2) (h3 : a.tmps.getD s3 undef = v3) (hd : a.defers = [])
    (h : Q (.returned (.tuple #[v, v2, v3])) w) : bodyPost Try.prog f Q .ret a w := by
  refine bodyPost_ret (v := .tuple #[v, v2, v3]) ?_ hd h
  have h1 : a.tmps.getD s undef = .pointer (some ad) := hs
  simp [results, hr, -Array.getD_eq_getD_getElem?, h1, h2, h3, asAddr, hl]
theorem ret_four {f : Func} {a : Act} {w : World} {Q : Ending → World → Prop} {s s2 s3 s4 : Nat} {t : TypeId} {ad : Addr} {v v2 v3 v4 : Value} (hr : f.results = #[.cell s t, .tmp s2, .tmp s3, .tmp s4]) (hs : a.tmps.getD s undef = .pointer (some ad)) (hl : (loadVar t ad).run Try.prog w = .ok v w) (h2 : a.tmps.getD s2 undef = v2) (h3 : a.tmps.getD s3 undef = v3) (h4 : a.tmps.getD s4 undef = v4) (hd : a.defers = [])
    (h : Q (.returned (.tuple #[v, v2, v3, v4])) w) : bodyPost Try.prog f Q .ret a w := by
  refine bodyPost_ret (v := .tuple #[v, v2, v3, v4]) ?_ hd h
  have h1 : a.tmps.getD s undef = .pointer (some ad) := hs
  simp [results, hr, -Array.getD_eq_getD_getElem?, h1, h2, h3, h4, asAddr, hl]
theorem res_put {w : World} {b : Nat} {p q x y : Value} {T : TypeId} (h : w.heap[b]? = some (.cells #[p, q] T (0, 0))) : ((w.setCell ⟨b, 0, none⟩ x).setCell ⟨b, 1, none⟩ y).heap[b]? = some (.cells #[x, y] T (0, 0)) := by
  have h1 : (w.setCell ⟨b, 0, none⟩ x).heap[b]? = some (.cells #[x, q] T (0, 0)) := (blk_set h 0 x).trans (by simp)
  exact (blk_set h1 1 y).trans (by simp)
theorem own_put {w : World} {B z : Nat} {v : Value} {n : Nat} {xs : List Value} {e : TypeId} (h : w.ownsRow B e z v n xs) (r o : Nat) (x : Value) (hr : r < B) : (w.setCell ⟨r, o, none⟩ x).ownsRow B e z v n xs := by
  refine ⟨h.1, ?_⟩
  rcases h.2 with hn | ⟨g, cap, cur, hv, hB, hh, hx⟩
  · exact .inl hn
  · exact .inr ⟨g, cap, cur, hv, hB, (Below.heap_setCell _ _ _ _ (by show ¬ g = r; omega)).trans hh, hx⟩
theorem cell_two {w : World} {b : Nat} {x y : Value} {T : TypeId} {fr : Nat × Nat} (h : w.heap[b]? = some (.cells #[x, y] T fr)) : w.cell? ⟨b, 0, none⟩ = some x ∧ w.cell? ⟨b, 1, none⟩ = some y :=
  ⟨cell_at (L := [x, y]) h 0 _ rfl, cell_at (L := [x, y]) h 1 _ rfl⟩
end Go.Proofs.Ytclfphffbfdimaa

/- Maps keyed by ballots: how many voted for what. -/
namespace Go.Proofs.Ytclfphffbfdimaa
open Go.RowKit Go.Maps

def fitB (b : Bl) : Prop := b.1.size ≤ maxLen ∧ b.2.size ≤ maxLen
def kB (b : Bl) : Lit := .string (keyBytes [.string b.1.data.toList, .string b.2.data.toList])
theorem bl_type : Try.prog.keyType 76 = true := by kernel_rfl
theorem bl_cells : Try.prog.cellsOf 76 = 2 := by kernel_rfl
theorem strB_cells : Try.prog.cellsOf 9 = 1 := by kernel_rfl
theorem lits_strB (d : Nat) (s : ByteArray) (h : s.size ≤ maxLen) : Try.prog.keyLits (d + 1) 9 [.string s] = some [.string s.data.toList] := by
  simp [Program.keyLits, Try.underlying9, h]
theorem lits_bl (d : Nat) (p : Bl) (h : fitB p) : Try.prog.keyLits (d + 1 + 1) 76 [.string p.1, .string p.2] = some [.string p.1.data.toList, .string p.2.data.toList] := by
  unfold Program.keyLits
  simp [Try.underlying76, bl_cells, strB_cells, lits_strB d p.1 h.1, lits_strB d p.2 h.2]
theorem bl_key (p : Bl) (h : fitB p) : keyOf Try.prog 76 (.agg #[.string p.1, .string p.2]) = some (kB p) := by
  have hf : (Value.agg #[.string p.1, .string p.2]).formed Try.prog 76 = true := by
    rw [Value.formed, Try.underlying76, bl_cells]; rfl
  obtain ⟨n, hn⟩ : ∃ n, Try.prog.types.size = n + 1 := Nat.exists_eq_succ_of_ne_zero (of_decide_eq_true (by kernel_rfl))
  rw [keyOf, Try.underlying76]
  show (if Try.prog.keyType 76 && (Value.agg #[.string p.1, .string p.2]).formed Try.prog 76 then (Try.prog.keyLits (Try.prog.types.size + 1) 76 [.string p.1, .string p.2]).map fun ls => Lit.string (keyBytes ls) else none) = _
  rw [bl_type, hf, hn, lits_bl n p h]
  rfl
theorem bl_keyed : Keyed Try.prog 76 := Keyed.of_law (deep_law_laid (by kernel_rfl) (m := 4) (by decide) (of_decide_eq_true (by kernel_rfl)) (by kernel_rfl) (by kernel_rfl))
theorem kB_inj {p q : Bl} (hp : fitB p) (hq : fitB q) (h : kB p = kB q) : p = q := by
  have := bl_keyed.inj (bl_key p hp) (by rw [h]; exact bl_key q hq)
  simp at this
  exact Prod.ext this.1 this.2
theorem kB_key {p : Bl} (hp : fitB p) : WideAt.IsKeyLit (kB p) := bl_keyed.key (bl_key p hp)
theorem str_inv (d : Nat) (c : Value) (ls : List Lit) (h : Try.prog.keyLits (d + 1) 9 [c] = some ls) : ∃ x : ByteArray, c = .string x ∧ x.size ≤ maxLen ∧ ls = [.string x.data.toList] := by
  cases c <;> simp [Program.keyLits, Try.underlying9] at h
  exact ⟨_, rfl, h.1, h.2.symm⟩
theorem bl_formed (key : Value) (h : key.formed Try.prog 76 = true) : ∃ x y, key = .agg #[x, y] := by
  cases key <;> simp only [Value.formed, Try.underlying76, bl_cells] at h
  all_goals first | (exact absurd h (by decide)) | skip
  rename_i cs
  have h2 : cs.size = 2 := by simpa using h
  obtain ⟨l⟩ := cs
  match l, h2 with
  | [x, y], _ => exact ⟨x, y, rfl⟩
theorem bl_inv (key : Value) (kl : Lit) (h : keyOf Try.prog 76 key = some kl) : ∃ p : Bl, key = .agg #[.string p.1, .string p.2] ∧ fitB p ∧ kl = kB p := by
  have e0 : keyOf Try.prog 76 key = (if Try.prog.keyType 76 && key.formed Try.prog 76 then (Try.prog.keyLits (Try.prog.types.size + 1) 76 key.cells.toList).map fun ls => Lit.string (keyBytes ls) else none) := by
    rw [keyOf, Try.underlying76]
  rw [e0] at h
  replace h : (if Try.prog.keyType 76 && key.formed Try.prog 76 then (Try.prog.keyLits (Try.prog.types.size + 1) 76 key.cells.toList).map fun ls => Lit.string (keyBytes ls) else none) = some kl := h
  rw [bl_type, Bool.true_and] at h
  cases hf : key.formed Try.prog 76 with
  | false => rw [hf, if_neg (by decide)] at h; cases h
  | true =>
    rw [hf, if_pos rfl] at h
    obtain ⟨x, y, rfl⟩ := bl_formed key hf
    obtain ⟨n, hn⟩ : ∃ n, Try.prog.types.size = n + 1 := Nat.exists_eq_succ_of_ne_zero (of_decide_eq_true (by kernel_rfl))
    rw [hn] at h
    obtain ⟨ls, hls, rfl⟩ := Option.map_eq_some_iff.1 h
    have e1 : ∀ (d : Nat), Try.prog.keyLits (d + 1 + 1) 76 [x, y] = ((Try.prog.keyLits (d + 1) 9 [x]).bind fun a => (Try.prog.keyLits (d + 1) 9 [y]).map fun b => a ++ b) := fun d => by
      conv => lhs; unfold Program.keyLits
      simp [Try.underlying76, bl_cells, strB_cells]
      cases Try.prog.keyLits (d + 1) 9 [x] <;> cases Try.prog.keyLits (d + 1) 9 [y] <;> simp
    have e2 := (e1 n).symm.trans hls
    clear hls h e0 e1 hf hn
    cases ha : Try.prog.keyLits (n + 1) 9 [x] with
    | none => rw [ha] at e2; cases e2
    | some a =>
      cases hb : Try.prog.keyLits (n + 1) 9 [y] with
      | none => rw [ha, hb] at e2; cases e2
      | some b =>
        rw [ha, hb] at e2
        obtain ⟨p, ex, hp, ea⟩ := str_inv n x a ha
        obtain ⟨q, ey, hq, eb⟩ := str_inv n y b hb
        clear ha hb
        subst ex ey ea eb
        cases e2
        exact ⟨(p, q), rfl, ⟨hp, hq⟩, rfl⟩
def nD (n : Nat) : DataW Unit := .lit (.int .i64 (n : Int))
def zD : DataW Unit := .lit (.int .i64 0)
/-- The datum D holds how many of vs are for what. -/
structure Cts (D : DataW Unit) (vs : List Vo) : Prop where
  at_ : ∀ b, fitB b → D.atKey (kB b) zD = nD (cntB vs b)
  has_ : ∀ b, fitB b → Maps.has D (kB b) = decide (0 < cntB vs b)
  size : Maps.size D ≤ vs.length
  tidy : Tidy D
theorem Cts.empty : Cts (.map []) [] := ⟨fun _ _ => rfl, fun _ _ => rfl, Nat.le_refl _, tidy_empty⟩
theorem Cts.put {D : DataW Unit} {vs : List Vo} (h : Cts D vs) (f : Int) (b : Bl) (hb : fitB b) : Cts (D.put (kB b) (nD (cntB vs b + 1))) (vs ++ [(f, b)]) := by
  refine ⟨fun c hc => ?_, fun c hc => ?_, ?_, h.tidy.put (kB_key hb) _⟩
  · rw [cntB_add]
    by_cases e : b = c
    · subst e
      rw [atKey_put_same h.tidy.isMap (kB_key hb), if_pos rfl]
    · rw [atKey_put_other (fun e2 => e (kB_inj hc hb e2).symm), h.at_ c hc, if_neg e, Nat.add_zero]
  · rw [cntB_add]
    by_cases e : b = c
    · subst e
      rw [has_put_same h.tidy.isMap (kB_key hb), if_pos rfl]
      simp
    · rw [has_put_other (fun e2 => e (kB_inj hc hb e2).symm), h.has_ c hc, if_neg e, Nat.add_zero]
  · rw [size_put h.tidy, List.length_append]
    have := h.size
    simp
    split <;> omega
theorem mapV_type : Try.prog.underlying 74 = some (.map 76 3) := by kernel_rfl
theorem intV_zero (w : World) : (zeroValue 3).run Try.prog w = .ok (.int .i64 0) w := by kernel_rfl
def MpAt (w : World) (m : Nat) (vs : List Vo) : Prop := ∃ D, w.ownsMap Try.prog 76 (plainElem Try.prog 3) m (Maps.size D) D ∧ Cts D vs
theorem ownsMap_tightV {w : World} {k : TypeId} {R : Value → Option (DataW Unit × List MemPlace)} {b n : Nat} {D : DataW Unit} (h : w.ownsMap Try.prog k R b n D) : w.ownsMap Try.prog k R b (Maps.size D) D := by
  obtain ⟨es, clock, hb, F, hs, rfl⟩ := h
  exact ⟨es, clock, hb, F, by simp [Maps.size, length_sorted], rfl⟩
theorem MpAt.lt {w : World} {m : Nat} {vs : List Vo} (h : MpAt w m vs) : m < w.heap.size := by
  obtain ⟨D, h, _⟩ := h
  exact World.ownsMap.lt h
theorem MpAt.keep {w w' : World} {m : Nat} {vs : List Vo} (h : MpAt w m vs) (hb : w'.heap[m]? = w.heap[m]?) : MpAt w' m vs := by
  obtain ⟨D, ⟨es, clock, hm, r⟩, hc⟩ := h
  exact ⟨D, ⟨es, clock, hb.trans hm, r⟩, hc⟩
theorem MpAt.made (w : World) : MpAt (w.alloc (.map #[] 0)) w.heap.size [] := ⟨.map [], World.ownsMap_made w Try.prog _ _, Cts.empty⟩
/-- 'm[b]'. -/
theorem MpAt.look {w : World} {m : Nat} {vs : List Vo} (h : MpAt w m vs) (b : Bl) (hb : fitB b) :
    (Instr.lookup 74 (.map (some m)) (.agg #[.string b.1, .string b.2]) false).run Try.prog w = .ok (.int .i64 (cntB vs b : Int)) w := by
  obtain ⟨D, h, hc⟩ := h
  obtain ⟨c, hrun, hat, _⟩ := h.lookup_int bl_keyed mapV_type Try.underlying3 (intV_zero w) (bl_key b hb)
  have := hc.at_ b hb
  rw [zD, hat, nD] at this
  have e : c = (cntB vs b : Int) := by simpa using this
  rw [hrun, e]
/-- 'm[b]++', its store. -/
theorem MpAt.put {w : World} {m : Nat} {vs : List Vo} (h : MpAt w m vs) (hl : vs.length ≤ 1000) (f : Int) (b : Bl) (hb : fitB b) :
    ∃ w', (Instr.mapUpdate 74 (.map (some m)) (.agg #[.string b.1, .string b.2]) (.int .i64 ((cntB vs b : Int) + 1))).run Try.prog w = .ok () w' ∧ MpAt w' m (vs ++ [(f, b)]) ∧ w.grownBy w' (some m) := by
  obtain ⟨D, h, hc⟩ := h
  have h1 := hc.size
  have h2 := cntB_le vs b
  have hw : (Lit.int .i64 ((cntB vs b : Int) + 1)).wf = true := by simp [Lit.wf, IntKind.min, IntKind.max, IntKind.bits, IntKind.signed]; omega
  obtain ⟨w', r1, r2, r3⟩ := h.update bl_keyed mapV_type (by unfold maxLen; omega) (bl_key b hb) (plainElem_int Try.underlying3 hw)
  refine ⟨w', r1, ⟨_, ownsMap_tightV r2, ?_⟩, r3⟩
  have := hc.put f b hb
  rwa [nD, Int.natCast_add] at this
end Go.Proofs.Ytclfphffbfdimaa

/- slices.Clone of numbers: new memory. -/
namespace Go.Proofs.Ytclfphffbfdimaa
open Go.RowKit

def Free (w : World) (k : Nat) : Prop := ∃ (cs : Array Value) (T : TypeId), w.heap[k]? = some (.cells cs T (0, 0))
theorem Free.lt {w : World} {k : Nat} (h : Free w k) : k < w.heap.size := by obtain ⟨_, _, h⟩ := h; exact lt_of_blk h
theorem Free.keep {w w' : World} {k : Nat} (h : Free w k) (hb : w'.heap[k]? = w.heap[k]?) : Free w' k := by obtain ⟨c, T, h⟩ := h; exact ⟨c, T, hb.trans h⟩
/-- A list of numbers in memory of its own, at block B or later, that may be written. -/
structure NewI (B : Nat) (w : World) (ad : Option Addr) (l : List Int) : Prop where
  ints : IntsIn w ad l
  far : ∀ x, ad = some x → B ≤ x.block ∧ Free w x.block
theorem NewI.keep {B : Nat} {w w' : World} {ad : Option Addr} {l : List Int} (h : NewI B w ad l) (hb : Below w.heap.size w w') : NewI B w' ad l :=
  ⟨h.ints.keep hb (Nat.le_refl _), fun x hx => ⟨(h.far x hx).1, (h.far x hx).2.keep (hb.block _ (h.far x hx).2.lt)⟩⟩
theorem OwnedI.slice {B : Nat} {w0 w : World} {v : Value} {zs : List Int} (h : OwnedI B w0 w v zs) : ∃ ad cap, v = .slice ad zs.length cap ∧ IntsIn w ad zs ∧ ∀ x, ad = some x → B ≤ x.block ∧ x.block < w.heap.size := by
  rcases h.own.2 with ⟨hv, h0⟩ | ⟨g, cap, cur, hv, hb, hh, hr⟩
  · exact ⟨none, 0, by rw [hv, h0], .inl (List.eq_nil_of_length_eq_zero h0), fun x hx => by cases hx⟩
  · refine ⟨_, cap, hv, .inr ⟨g, 0, rfl, lt_of_blk hh, fun j s hj => ?_⟩, fun x hx => by cases hx; exact ⟨hb, lt_of_blk hh⟩⟩
    subst hv
    have := h.own.cells (g := g) rfl j _ (iC_get zs j s hj)
    rwa [Addr.add_lit] at this
theorem OwnedI.new {B : Nat} {w0 w : World} {v : Value} {zs : List Int} (h : OwnedI B w0 w v zs) : ∃ ad cap, v = .slice ad zs.length cap ∧ NewI B w ad zs := by
  obtain ⟨ad, cap, hv, hi, _⟩ := h.slice
  refine ⟨ad, cap, hv, hi, fun x hx => ?_⟩
  rcases h.own.2 with ⟨hv2, h0⟩ | ⟨g, cap, cur, hv2, hb, hh, hr⟩
  · rw [hv, hx] at hv2; cases hv2
  · rw [hv, hx] at hv2; cases hv2; exact ⟨hb, _, _, hh⟩
set_option maxRecDepth 100000 in
set_option maxHeartbeats 2000000 in
theorem cloneInts_any (a : Option Addr) (n cap : Nat) (l : List Int) (hn : l.length = n) (hm : n * 8 ≤ 140737488355328) (w : World) (hI : IntsIn w a l) :
    Calls Try.prog 35 #[.slice a n cap] w fun e w' => ∃ a1 c1, e = .returned (.slice a1 n c1) ∧ NewI w.heap.size w' a1 l ∧ Below w.heap.size w w' := by
  have q22 : ∀ (w : World) (a : Option Addr) (n c n' c' : Nat), (binOp .eql 22 (.slice a n c) (.slice none n' c')).run Try.prog w = .ok (.bool a.isNone) w := fun w a n c n' c' => Lib.run_eql_slice_nil w _ _ a n c n' c' Try.underlying22
  cases a with
  | none =>
    obtain rfl : l = [] := by rcases hI with h | ⟨g, off, ha, _⟩; exact h; cases ha
    obtain rfl : 0 = n := hn
    clear hI hm
    go_enter Try.func35, Try.ntmps35
    go_wp2
    go_ret
    first | exact ⟨none, 0, rfl, ⟨.inl rfl, fun x hx => by cases hx⟩, Below.refl _ _⟩ | exact ⟨none, ⟨0, rfl⟩, ⟨.inl rfl, fun x hx => by cases hx⟩, Below.refl _ _⟩
  | some ad =>
    obtain ⟨i0, hi0, hz0, hz1, hz2⟩ := info_parts Try.info3
    have HP := hid hI
    have HN := hid (And.intro hn hm)
    clear hI hn hm
    go_enter Try.func35, Try.ntmps35
    go_wp2_with (at_builtin; refine wpList_append_own _ rfl _ _ 22 rfl w.heap.size 3 i0 (.int .i64 0) 1 8 Try.underlying22 hi0 hz0 hz1 hz2 rfl (by decide) _ _ _ rfl (World.ownsRow_made w #[] 0 (Nat.le_refl _) (Nat.zero_le _) rfl) ad n cap (iC l) rfl ?qc1 ?qc2 ?qc3 ?qc4 ?qc5 ?qc6 ?_)
    case qc1 => rw [iC_len, HN.out.1, Nat.mul_one]
    case qc2 =>
      intro j u hj
      obtain ⟨s, hs, rfl⟩ := iC_back l j u hj
      obtain ⟨g', off', eg, _, h1⟩ := HP.out.at j s hs
      cases eg
      rw [Addr.add_lit]
      exact Lib.cell?_alloc_some _ h1
    case qc3 => exact iC_one l
    case qc4 => have := HN.out.2; unfold maxLen; omega
    case qc5 => have := HN.out.2; omega
    case qc6 => simp
    intro v' w1 hown hgrow hnil
    have HO : Hid (OwnedI w.heap.size w w1 v' l) := hid ⟨by rw [HN.out.1]; simpa using hown, ((Below.refl _ w).alloc (Nat.le_refl _) _).grown hgrow (by simp) (by intro k hk; simp [Value.ownBlock] at hk; omega), by have := hgrow.size; simp at this; omega⟩
    clear hown hgrow hnil
    obtain ⟨a1, c1, hv, hN⟩ := HO.out.new
    rw [HN.out.1] at hv
    subst hv
    have HNw := hid hN
    clear hN
    go_wp2
    go_ret
    first | exact ⟨a1, c1, rfl, HNw.out, HO.out.bel⟩ | exact ⟨a1, ⟨c1, rfl⟩, HNw.out, HO.out.bel⟩

end Go.Proofs.Ytclfphffbfdimaa

/- What all families of texts share: all blocks but a few stay. -/
namespace Go.Proofs.Ytclfphffbfdimaa
open Go.RowKit

/-- All blocks but those named stay. -/
structure Out (F : List Nat) (w w' : World) : Prop where
  os : w'.os = w.os
  tape : w'.tape = w.tape
  output : w'.output = w.output
  size : w.heap.size ≤ w'.heap.size
  block : ∀ k, k < w.heap.size → k ∉ F → w'.heap[k]? = w.heap[k]?
theorem Out.refl (F : List Nat) (w : World) : Out F w w := ⟨rfl, rfl, rfl, Nat.le_refl _, fun _ _ _ => rfl⟩
theorem Out.then {F : List Nat} {w w1 w2 : World} {m : Nat} (h : Out F w w1) (hg : w1.grownBy w2 (some m)) (hm : m ∈ F ∨ w.heap.size ≤ m) : Out F w w2 :=
  ⟨hg.os.trans h.os, hg.tape.trans h.tape, hg.output.trans h.output, Nat.le_trans h.size hg.size, fun k hk hF => (hg.block k (Nat.lt_of_lt_of_le hk h.size) (fun e => by
    cases e
    rcases hm with hm | hm
    · exact hF hm
    · omega)).trans (h.block k hk hF)⟩
theorem Out.alloc {F : List Nat} {w w1 : World} (h : Out F w w1) (o : Obj) : Out F w (w1.alloc o) :=
  ⟨h.os, h.tape, h.output, by have := h.size; simp; omega, fun k hk hF => (Below.heap_alloc _ _ _ (Nat.lt_of_lt_of_le hk h.size)).trans (h.block k hk hF)⟩
theorem Out.drew {F : List Nat} {w w1 : World} (h : Out F w w1) : Out F w w1.drew := ⟨h.os, h.tape, h.output, h.size, h.block⟩
theorem Out.setCell {F : List Nat} {w w1 : World} (h : Out F w w1) (g o : Nat) (v : Value) (hg : g ∈ F) : Out F w (w1.setCell ⟨g, o, none⟩ v) :=
  ⟨h.os, h.tape, h.output, by have := h.size; simpa using this, fun k hk hF => (Below.heap_setCell _ _ _ _ (show k ≠ g from fun e => hF (by rw [e]; exact hg))).trans (h.block k hk hF)⟩
theorem Out.below {F : List Nat} {w w' : World} {B : Nat} (h : Out F w w') (hB : B ≤ w.heap.size) (hF : ∀ b, b ∈ F → B ≤ b) : Below B w w' :=
  ⟨h.os, h.tape, h.output, h.size, fun k hk => h.block k (by omega) (fun hm => by have := hF k hm; omega)⟩
theorem Out.trans {F G : List Nat} {w w1 w2 : World} (h : Out F w w1) (k : Out G w1 w2) (hG : ∀ b, b ∈ G → b ∈ F ∨ w.heap.size ≤ b) : Out F w w2 :=
  ⟨k.os.trans h.os, k.tape.trans h.tape, k.output.trans h.output, Nat.le_trans h.size k.size, fun b hb hF => (k.block b (Nat.lt_of_lt_of_le hb h.size) (fun hm => by
    rcases hG b hm with h1 | h1
    · exact hF h1
    · omega)).trans (h.block b hb hF)⟩
theorem Out.of_below {F : List Nat} {w w' : World} (h : Below w.heap.size w w') : Out F w w' := ⟨h.os, h.tape, h.output, h.size, fun k hk _ => h.block k hk⟩
theorem Out.more {F : List Nat} {w w1 w2 : World} (h : Out F w w1) (k : Below w1.heap.size w1 w2) : Out F w w2 :=
  ⟨k.os.trans h.os, k.tape.trans h.tape, k.output.trans h.output, Nat.le_trans h.size k.size, fun b hb hF => (k.block b (Nat.lt_of_lt_of_le hb h.size)).trans (h.block b hb hF)⟩
theorem Out.low {F : List Nat} {B : Nat} {w0 w w' : World} (h : Below B w0 w) (k : Out F w w') (hB : B ≤ w0.heap.size) (hF : ∀ b, b ∈ F → B ≤ b) : Below B w0 w' :=
  h.trans (k.below (Nat.le_trans hB h.size) hF)
end Go.Proofs.Ytclfphffbfdimaa

/- The contracts of the reference of package reals (all but the texts). -/
namespace Go.Proofs.Ytclfphffbfdimaa
open Go.RowKit

def placeW (n : Nat) : Nat := bif nanW n then 18446744073709551615 else bif decide (9223372036854775808 ≤ n) then 9223372036854775807 - n % 9223372036854775808 else 9223372036854775808 + n
theorem canW_ne (n : Nat) : (canW n == n) = !(nanW n && n != 9221120237041090560) := by
  cases h : nanW n
  · simp [canW, h]
  · simp [canW, h]
    rw [Bool.eq_iff_iff]; simp; omega
theorem rank_place (a b : Nat) (ha : a < 18446744073709551616) (hb : b < 18446744073709551616) : (rankW a < rankW b) ↔ (placeW a < placeW b) := by
  have h1 : ∀ n, nanW n = true → rankW n = 18444492273895866368 ∧ placeW n = 18446744073709551615 := fun n h => by simp [rankW, placeW, canW, h]
  have h2 : ∀ n, n < 18446744073709551616 → nanW n = false → rankW n = placeW n ∧ rankW n ≤ 18442240474082181120 := fun n hn h => by
    have hl : ¬ (9218868437227405312 < n % 9223372036854775808) := by simpa [nanW] using h
    by_cases hg : 9223372036854775808 ≤ n
    · simp [rankW, placeW, canW, h, hg]; omega
    · simp [rankW, placeW, canW, h, hg]; omega
  cases hx : nanW a <;> cases hy : nanW b
  · rw [(h2 a ha hx).1, (h2 b hb hy).1]
  · have := h2 a ha hx; have := h1 b hy; omega
  · have := h1 a hx; have := h2 b hb hy; omega
  · have := h1 a hx; have := h1 b hy; omega

theorem rank_can (a : Nat) : rankW (canW a) = rankW a := by simp only [rankW, canW_idem]

end Go.Proofs.Ytclfphffbfdimaa

/- The document's deeds: which operation is right, which request, which is the null one. -/
namespace Go.Proofs.Ytclfphffbfdimaa
open Go.RowKit

theorem ret_bool {X Y : Bool} (h : X = Y) : Ending.returned (.bool X) = Ending.returned (.bool Y) := by rw [h]
theorem none_size (s : ByteArray) : s.toList.isEmpty = decide (s.size = 0) := by
  rw [ByteArray.toList_eq]
  cases h : s.data.toList with
  | nil =>
    have : s.size = 0 := by rw [← data_len, h]; rfl
    simp [this]
  | cons x l =>
    have : s.size ≠ 0 := by rw [← data_len, h]; simp
    simp [this]
end Go.Proofs.Ytclfphffbfdimaa

/- Stores of reals, of requests and of results, as one step of a walk each. -/
namespace Go.Proofs.Ytclfphffbfdimaa
open Go.RowKit

/-- Only block b may be another one. -/
structure One (b : Nat) (w w' : World) : Prop where
  os : w'.os = w.os
  tape : w'.tape = w.tape
  output : w'.output = w.output
  size : w'.heap.size = w.heap.size
  block : ∀ k, k ≠ b → w'.heap[k]? = w.heap[k]?
theorem one_cells (b : Nat) : ∀ (vs : List Value) (o : Nat) (w : World), One b w (w.setCells b o vs)
  | [], _, _ => ⟨rfl, rfl, rfl, rfl, fun _ _ => rfl⟩
  | v :: vs, o, w => by
    have h := one_cells b vs (o + 1) (w.setCell ⟨b, o, none⟩ v)
    exact ⟨h.os, h.tape, h.output, h.size.trans (by simp [World.setCell]), fun k hk => (h.block k hk).trans (Below.heap_setCell _ _ _ _ hk)⟩
theorem One.below {b B : Nat} {x w w' : World} (h : One b w w') (hb : Below B x w) (hB : B ≤ b) : Below B x w' :=
  ⟨h.os.trans hb.os, h.tape.trans hb.tape, h.output.trans hb.output, by rw [h.size]; exact hb.size, fun k hk => (h.block k (by omega)).trans (hb.block k hk)⟩
section
variable {P : Program} {o : Oper} {a : Act} {w : World} {Q : Exit → Act → World → Prop} {ops : Array Oper} {rest : List Oper}
end
end Go.Proofs.Ytclfphffbfdimaa

/- The program's tally in memory. -/
namespace Go.Proofs.Ytclfphffbfdimaa
open Go.RowKit

def blC (l : List Bl) : List Value := l.flatMap fun b => [.string b.1, .string b.2]
theorem blC_cons (d : Bl) (l : List Bl) : blC (d :: l) = .string d.1 :: .string d.2 :: blC l := rfl
theorem blC_len (l : List Bl) : (blC l).length = 2 * l.length := by
  induction l with
  | nil => rfl
  | cons d l ih =>
    rw [blC_cons, List.length_cons, List.length_cons, ih, List.length_cons]
    omega
theorem blC_at : ∀ (l : List Bl) (c : Nat) (d : Bl), l[c]? = some d → (blC l)[2 * c]? = some (.string d.1) ∧ (blC l)[2 * c + 1]? = some (.string d.2)
  | [], _, _, h => by simp at h
  | x :: l, 0, d, h => by
    obtain rfl : x = d := by simpa using h
    exact ⟨rfl, rfl⟩
  | x :: l, c + 1, d, h => by
    obtain ⟨h1, h2⟩ := blC_at l c d (by simpa using h)
    rw [blC_cons, show 2 * (c + 1) = 2 * c + 1 + 1 by omega, show 2 * c + 1 + 1 + 1 = (2 * c + 1) + 1 + 1 by omega]
    simp only [List.getElem?_cons_succ]
    exact ⟨h1, h2⟩
theorem blC_set : ∀ (l : List Bl) (c : Nat) (d : Bl), c < l.length → ((blC l).set (2 * c) (.string d.1)).set (2 * c + 1) (.string d.2) = blC (l.set c d)
  | [], _, _, h => by simp at h
  | x :: l, 0, d, _ => rfl
  | x :: l, c + 1, d, h => by
    have ih := blC_set l c d (by simpa using h)
    rw [blC_cons, show 2 * (c + 1) = 2 * c + 1 + 1 by omega, show 2 * c + 1 + 1 + 1 = (2 * c + 1) + 1 + 1 by omega]
    simp only [List.set_cons_succ]
    rw [ih]
    rfl
def castL (vs : List Vo) : List Bl := (List.range 16).map fun i : Nat => castOf vs (i : Int)
theorem castL_len (vs : List Vo) : (castL vs).length = 16 := by rw [castL, List.length_map, List.length_range]
theorem castL_at (vs : List Vo) (c : Nat) (h : c < 16) : (castL vs)[c]? = some (castOf vs (c : Int)) := by
  rw [castL, List.getElem?_map, List.getElem?_range h]; rfl
theorem castL_add {vs : List Vo} {f : Nat} {b : Bl} (h : voted vs (f : Int) = false) (hf : f < 16) : castL (vs ++ [((f : Int), b)]) = (castL vs).set f b := by
  apply List.ext_getElem?
  intro j
  rw [List.getElem?_set]
  by_cases hj : j < 16
  · rw [castL_at _ j hj, castOf_add h]
    by_cases e : f = j
    · subst e
      rw [if_pos rfl, if_pos rfl, if_pos (by rw [castL_len]; exact hf)]
    · rw [if_neg (by omega), if_neg e, castL_at _ j hj]
  · rw [List.getElem?_eq_none (by rw [castL_len]; omega)]
    rw [if_neg (by omega), List.getElem?_eq_none (by rw [castL_len]; omega)]
def tlC (ep : Int) (vm : Value) (bs : List Bl) (mp : Value) : List Value := .int .i64 ep :: vm :: (blC bs ++ [mp])
theorem tlC_at (ep : Int) (vm : Value) (bs : List Bl) (mp : Value) (c : Nat) (d : Bl) (h : bs[c]? = some d) : (tlC ep vm bs mp)[2 + c * 2]? = some (.string d.1) ∧ (tlC ep vm bs mp)[2 + c * 2 + 1]? = some (.string d.2) := by
  obtain ⟨h1, h2⟩ := blC_at bs c d h
  have hc : c < bs.length := (List.getElem?_eq_some_iff.1 h).1
  have hl := blC_len bs
  rw [tlC, show 2 + c * 2 + 1 = (2 * c + 1) + 1 + 1 by omega, show 2 + c * 2 = 2 * c + 1 + 1 by omega]
  simp only [List.getElem?_cons_succ]
  rw [List.getElem?_append_left (by omega), List.getElem?_append_left (by omega)]
  exact ⟨h1, h2⟩
theorem tlC_map (ep : Int) (vm : Value) (bs : List Bl) (mp : Value) (h : bs.length = 16) : (tlC ep vm bs mp)[34]? = some mp := by
  have hl := blC_len bs
  rw [tlC, show 34 = 32 + 1 + 1 by omega]
  simp only [List.getElem?_cons_succ]
  rw [List.getElem?_append_right (by omega), hl, h]
  rfl
theorem tlC_len (ep : Int) (vm : Value) (bs : List Bl) (mp : Value) (h : bs.length = 16) : (tlC ep vm bs mp).length = 35 := by
  have hl := blC_len bs
  rw [tlC, List.length_cons, List.length_cons, List.length_append, hl, h]
  rfl
theorem tlC_set (ep : Int) (vm : Value) (bs : List Bl) (mp : Value) (c : Nat) (d : Bl) (h : c < bs.length) : ((tlC ep vm bs mp).set (2 + c * 2) (.string d.1)).set (2 + c * 2 + 1) (.string d.2) = tlC ep vm (bs.set c d) mp := by
  have hl := blC_len bs
  rw [tlC, show 2 + c * 2 + 1 = (2 * c + 1) + 1 + 1 by omega, show 2 + c * 2 = 2 * c + 1 + 1 by omega]
  simp only [List.set_cons_succ]
  rw [List.set_append_left _ _ (by omega), List.set_append_left _ _ (by rw [List.length_set]; omega), blC_set bs c d h]
  rfl
def blkV (a : Option Addr) : List Nat := match a with | some x => [x.block] | none => []
theorem mem_blkV {a : Option Addr} {b : Nat} : b ∈ blkV a ↔ ∃ x, a = some x ∧ b = x.block := by
  cases a with
  | none => simp [blkV]
  | some x => simp [blkV]
def fpT (g m : Nat) (am : Option Addr) : List Nat := g :: m :: blkV am
theorem mem_fpT {g m : Nat} {am : Option Addr} {b : Nat} : b ∈ fpT g m am ↔ b = g ∨ b = m ∨ (∃ x, am = some x ∧ b = x.block) := by
  rw [fpT, List.mem_cons, List.mem_cons, mem_blkV]
/-- The tally at block g: its map at block m, its members elsewhere. -/
structure TlA (w : World) (g m : Nat) (am : Option Addr) (cm : Nat) (s : Ta) : Prop where
  blk : w.heap[g]? = some (.cells (tlC s.ep (.slice am s.mem.length cm) (castL s.vs) (.map (some m))).toArray 79 (0, 0))
  im : IntsIn w am s.mem
  mp : MpAt w m s.vs
  ne : g ≠ m
  ma : ∀ x, am = some x → (x.block ≠ g ∧ x.block ≠ m) ∧ x.block < w.heap.size
  ok : TOk s
def TlAt (F : List Nat) (w : World) (v : Value) (s : Ta) : Prop := ∃ g m am cm, v = .pointer (some ⟨g, 0, none⟩) ∧ F = fpT g m am ∧ TlA w g m am cm s
theorem ints_stayV {w w' : World} {a : Option Addr} {l : List Int} (h : IntsIn w a l) (hs : w.heap.size ≤ w'.heap.size) (hb : ∀ x, a = some x → w'.heap[x.block]? = w.heap[x.block]?) : IntsIn w' a l := by
  rcases h with h | ⟨g, off, ha, hg, hc⟩
  · exact .inl h
  · exact .inr ⟨g, off, ha, Nat.lt_of_lt_of_le hg hs, fun j z hz => (World.cell?_of_block (a := ⟨g, off + j, none⟩) (show w'.heap[g]? = w.heap[g]? from hb _ ha)).trans (hc j z hz)⟩
section
variable {w w' : World} {g m : Nat} {am : Option Addr} {cm : Nat} {s : Ta}
theorem TlA.stay (h : TlA w g m am cm s) (hs : w.heap.size ≤ w'.heap.size) (hb : ∀ b, b ∈ fpT g m am → w'.heap[b]? = w.heap[b]?) : TlA w' g m am cm s :=
  ⟨(hb g (mem_fpT.2 (.inl rfl))).trans h.blk, ints_stayV h.im hs (fun x hx => hb _ (mem_fpT.2 (.inr (.inr ⟨x, hx, rfl⟩)))), h.mp.keep (hb m (mem_fpT.2 (.inr (.inl rfl)))), h.ne, fun x hx => ⟨(h.ma x hx).1, Nat.lt_of_lt_of_le (h.ma x hx).2 hs⟩, h.ok⟩
theorem TlA.lt (h : TlA w g m am cm s) : ∀ b, b ∈ fpT g m am → b < w.heap.size := fun b hb => by
  rcases mem_fpT.1 hb with rfl | rfl | ⟨x, hx, rfl⟩
  · exact lt_of_blk h.blk
  · exact h.mp.lt
  · exact (h.ma x hx).2
theorem TlA.keep (h : TlA w g m am cm s) (hb : Below w.heap.size w w') : TlA w' g m am cm s := h.stay hb.size (fun b hF => hb.block b (h.lt b hF))
theorem TlA.alloc (h : TlA w g m am cm s) (o : Obj) : TlA (w.alloc o) g m am cm s := h.keep ((Below.refl _ _).alloc (Nat.le_refl _) o)
theorem TlA.c0 (h : TlA w g m am cm s) : w.cell? ⟨g, 0, none⟩ = some (.int .i64 s.ep) := cell_at h.blk 0 _ rfl
theorem TlA.c1 (h : TlA w g m am cm s) : w.cell? ⟨g, 1, none⟩ = some (.slice am s.mem.length cm) := cell_at h.blk 1 _ rfl
theorem TlA.c34 (h : TlA w g m am cm s) : w.cell? ⟨g, 34, none⟩ = some (.map (some m)) := cell_at h.blk 34 _ (tlC_map _ _ _ _ (castL_len _))
theorem TlA.cc (h : TlA w g m am cm s) (c : Nat) (hc : c < 16) : w.cell? ⟨g, 2 + c * 2, none⟩ = some (.string (castOf s.vs (c : Int)).1) ∧ w.cell? ⟨g, 2 + c * 2 + 1, none⟩ = some (.string (castOf s.vs (c : Int)).2) := by
  obtain ⟨h1, h2⟩ := tlC_at s.ep (.slice am s.mem.length cm) (castL s.vs) (.map (some m)) c _ (castL_at s.vs c hc)
  exact ⟨cell_at h.blk _ _ h1, cell_at h.blk _ _ h2⟩
theorem TlA.fr (h : TlA w g m am cm s) (j : Nat) : w.frozen? ⟨g, j, none⟩ = false := free_at h.blk j
theorem TlA.at (h : TlA w g m am cm s) : TlAt (fpT g m am) w (.pointer (some ⟨g, 0, none⟩)) s := ⟨g, m, am, cm, rfl, rfl, h⟩
end
section
variable {F : List Nat} {w w' : World} {v : Value} {s : Ta}
theorem TlAt.lt (h : TlAt F w v s) : ∀ b, b ∈ F → b < w.heap.size := by
  obtain ⟨g, m, am, cm, _, rfl, h⟩ := h
  exact h.lt
theorem TlAt.stay (h : TlAt F w v s) (hs : w.heap.size ≤ w'.heap.size) (hb : ∀ b, b ∈ F → w'.heap[b]? = w.heap[b]?) : TlAt F w' v s := by
  obtain ⟨g, m, am, cm, hv, rfl, h⟩ := h
  exact ⟨g, m, am, cm, hv, rfl, h.stay hs hb⟩
theorem TlAt.keep (h : TlAt F w v s) (hb : Below w.heap.size w w') : TlAt F w' v s := h.stay hb.size (fun b hF => hb.block b (h.lt b hF))
theorem TlAt.out {G : List Nat} (h : TlAt F w v s) (ho : Out G w w') (hF : ∀ b, b ∈ F → b ∉ G) : TlAt F w' v s := h.stay ho.size (fun k hk => ho.block k (h.lt k hk) (hF k hk))
theorem TlAt.ok (h : TlAt F w v s) : TOk s := by
  obtain ⟨g, m, am, cm, _, _, h⟩ := h
  exact h.ok
end
end Go.Proofs.Ytclfphffbfdimaa
