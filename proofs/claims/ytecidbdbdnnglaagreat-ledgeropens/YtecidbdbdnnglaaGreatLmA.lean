/- A map of keys with reals, as it is read: rising keys with bits. -/
import Derived.Test.YtecidbdbdnnglaaGreatLeA
import Derived.Maps.OwnSet
import Derived.Sort.KeysCollected
namespace Go.Proofs.YtecidbdbdnnglaaGreat
open Go.RowKit Go.Maps

theorem Tryz.mapT : Tryz.prog.underlying 67 = some (.map 9 48) := by kernel_rfl
theorem flt_zero (w : World) : (zeroValue 48).run Tryz.prog w = .ok (.float .f64 0) w := by kernel_rfl
theorem str_keyed : Keyed Tryz.prog 9 := string_keyed Tryz.underlying9
/-- How a real reads as a map's element: as its bits. -/
def fltE : Value → Option (DataW Unit × List MemPlace)
  | .float .f64 b => some (.lit (.int .u64 (b : Int)), [])
  | _ => none
theorem fltE_mk (b : Nat) : fltE (.float .f64 b) = some (.lit (.int .u64 (b : Int)), []) := rfl
theorem fltE_inv {v : Value} {z : DataW Unit × List MemPlace} (h : fltE v = some z) : ∃ b : Nat, v = .float .f64 b ∧ z = (.lit (.int .u64 (b : Int)), []) := by
  unfold fltE at h
  split at h
  · exact ⟨_, rfl, (Option.some.inj h).symm⟩
  · cases h
def keyL (k : ByteArray) : Lit := .string k.data.toList
def bD (b : Nat) : DataW Unit := .lit (.int .u64 (b : Int))
theorem bD_inj {a b : Nat} (h : bD a = bD b) : a = b := by
  unfold bD at h
  cases h
  rfl
def eD (y : Kb) : Lit × DataW Unit := (keyL y.1, bD y.2)
def dM (L : List Kb) : DataW Unit := .map (L.map eD)
theorem str_key (k : ByteArray) (h : k.size ≤ maxLen) : keyOf Tryz.prog 9 (.string k) = some (keyL k) := Go.WideMaps.keyOf_string_mk Tryz.underlying9 h
theorem before_lt : ∀ (a b : List UInt8), bytesBefore a b = decide (a < b)
  | [], [] => by simp [bytesBefore]
  | _ :: _, [] => by simp [bytesBefore]
  | [], _ :: _ => by simp [bytesBefore]
  | a :: x, b :: y => by
    rw [bytesBefore, before_lt x y]
    simp only [List.cons_lt_cons_iff]
    by_cases h1 : a < b <;> by_cases h2 : a = b <;> by_cases h3 : x < y <;> simp [h1, h2, h3]
theorem keyL_before (a b : ByteArray) : (keyL a).before (keyL b) = ltK a b := before_lt _ _
theorem keyL_same (a b : ByteArray) : (keyL a).sameKey (keyL b) = decide (a = b) := by
  show (a.data.toList == b.data.toList) = _
  by_cases h : a = b
  · subst h; simp
  · rw [decide_eq_false h]
    simp only [beq_eq_false_iff_ne]
    exact fun e => h (key_ext e)
theorem dM_filter (k : ByteArray) (L : List Kb) : (L.map eD).filter (fun p => !p.1.sameKey (keyL k)) = (cutK k L).map eD := by
  induction L with
  | nil => rfl
  | cons x r ih =>
    have hx : (!(eD x).1.sameKey (keyL k)) = offK k x := by rw [offK, ← keyL_same]; rfl
    rw [List.map_cons, List.filter_cons, hx, ih]
    show _ = (List.filter (offK k) (x :: r)).map eD
    rw [List.filter_cons]
    cases offK k x <;> rfl
theorem insert_low {x : Lit × DataW Unit} : ∀ {l : List (Lit × DataW Unit)}, (∀ y ∈ l, x.1.before y.1 = true) → DataW.insert x l = x :: l
  | [], _ => rfl
  | y :: r, h => by rw [DataW.insert, if_pos (h y (by simp))]
theorem dM_put : ∀ {L : List Kb}, Rise L → ∀ (k : ByteArray) (b : Nat), DataW.insert (keyL k, bD b) ((cutK k L).map eD) = (putK k b L).map eD
  | [], _, _, _ => rfl
  | x :: r, h, k, b => by
    obtain ⟨h1, h2⟩ := List.pairwise_cons.1 h
    rw [putK]
    split
    · rename_i hx
      have hc : cutK k (x :: r) = x :: cutK k r := by simp [cutK, offK, ltK_ne hx]
      rw [hc, List.map_cons, DataW.insert]
      have hb : (keyL k).before (eD x).1 = false := (keyL_before k x.1).trans (ltK_asym hx)
      rw [if_neg (by rw [hb]; simp), dM_put h2 k b]
      rfl
    · rename_i hx
      rw [insert_low]
      · rfl
      · intro y hy
        obtain ⟨z, hz, rfl⟩ := List.mem_map.1 hy
        obtain ⟨hz, hne⟩ := mem_cut.1 hz
        show (keyL k).before (keyL z.1) = true
        rw [keyL_before]
        rcases ltK_tri hne with h3 | h3
        · exfalso
          rcases List.mem_cons.1 hz with e | hz
          · rw [e] at h3; exact hx h3
          · exact hx (ltK_trans (h1 z hz) h3)
        · exact h3
theorem dM_putD {L : List Kb} (h : Rise L) (k : ByteArray) (b : Nat) : (dM L).put (keyL k) (bD b) = dM (putK k b L) := by
  show DataW.map (DataW.insert (keyL k, bD b) ((L.map eD).filter fun p => !p.1.sameKey (keyL k))) = _
  rw [dM_filter, dM_put h]
  rfl
theorem dM_delD (L : List Kb) (k : ByteArray) : (dM L).del (keyL k) = dM (cutK k L) := by
  show DataW.map ((L.map eD).filter fun p => !p.1.sameKey (keyL k)) = _
  rw [dM_filter]
  rfl
def atD (o : Option Nat) (z : DataW Unit) : DataW Unit := match o with | some b => bD b | none => z
theorem dM_atD (k : ByteArray) (z : DataW Unit) : ∀ (L : List Kb), (dM L).atKey (keyL k) z = atD (getK k L) z
  | [] => rfl
  | x :: r => by
    have ih := dM_atD k z r
    simp only [dM, DataW.atKey, List.map_cons] at ih ⊢
    have hx : (eD x).1.sameKey (keyL k) = decide (x.1 = k) := keyL_same _ _
    rw [List.find?_cons, getK]
    by_cases e : x.1 = k
    · rw [hx, decide_eq_true e, if_pos e]
      rfl
    · rw [hx, decide_eq_false e, if_neg e]
      exact ih
theorem dM_has (k : ByteArray) (L : List Kb) : Maps.has (dM L) (keyL k) = (getK k L).isSome := by
  cases h : getK k L with
  | none => exact has_false_of_atKey (fun z => by rw [dM_atD, h]; rfl)
  | some b => exact has_true_of_atKey (y := bD b) (fun z => by rw [dM_atD, h]; rfl)
theorem dM_size (L : List Kb) : Maps.size (dM L) = L.length := by simp [dM, Maps.size]
/-- Block m is a map with just these keys and bits. -/
def KmAt (w : World) (m : Nat) (L : List Kb) : Prop := w.ownsMap Tryz.prog 9 fltE m L.length (dM L)
theorem KmAt.of {w : World} {m n : Nat} {L : List Kb} (h : w.ownsMap Tryz.prog 9 fltE m n (dM L)) : KmAt w m L := by
  obtain ⟨es, clock, hb, F, hs, hD⟩ := h
  refine ⟨es, clock, hb, F, ?_, hD⟩
  have := dM_size L
  rw [hD] at this
  simp [Maps.size, length_sorted] at this
  omega
theorem KmAt.lt {w : World} {m : Nat} {L : List Kb} (h : KmAt w m L) : m < w.heap.size := World.ownsMap.lt h
theorem KmAt.keep {w w' : World} {m : Nat} {L : List Kb} (h : KmAt w m L) (hb : w'.heap[m]? = w.heap[m]?) : KmAt w' m L := by
  obtain ⟨es, clock, hm, r⟩ := h
  exact ⟨es, clock, hb.trans hm, r⟩
/-- 'x, found := m[k]'. -/
def valK (k : ByteArray) (L : List Kb) : Nat := (getK k L).getD 0
theorem KmAt.look {w : World} {m : Nat} {L : List Kb} (h : KmAt w m L) (k : ByteArray) (hk : k.size ≤ maxLen) :
    (Instr.lookup 67 (.map (some m)) (.string k) true).run Tryz.prog w = .ok (.tuple #[.float .f64 (valK k L), .bool (getK k L).isSome]) w := by
  obtain ⟨v, ps, hr, hR⟩ := World.ownsMap.look_ok h str_keyed Tryz.mapT (flt_zero w) (fltE_mk 0) (str_key k hk)
  obtain ⟨b, rfl, hz⟩ := fltE_inv hR
  rw [dM_atD] at hz
  have hb : b = valK k L := by
    unfold valK
    cases hg : getK k L with
    | none =>
      rw [hg] at hz
      exact (bD_inj (Prod.mk.inj hz).1).symm
    | some x =>
      rw [hg] at hz
      exact (bD_inj (Prod.mk.inj hz).1).symm
  rw [hr, dM_has, hb]
/-- 'm[k]'. -/
theorem KmAt.look1 {w : World} {m : Nat} {L : List Kb} (h : KmAt w m L) (k : ByteArray) (hk : k.size ≤ maxLen) :
    (Instr.lookup 67 (.map (some m)) (.string k) false).run Tryz.prog w = .ok (.float .f64 (valK k L)) w := by
  obtain ⟨v, ps, hr, hR⟩ := World.ownsMap.lookup h str_keyed Tryz.mapT (flt_zero w) (fltE_mk 0) (str_key k hk)
  obtain ⟨b, rfl, hz⟩ := fltE_inv hR
  rw [dM_atD] at hz
  have hb : b = valK k L := by
    unfold valK
    cases hg : getK k L with
    | none =>
      rw [hg] at hz
      exact (bD_inj (Prod.mk.inj hz).1).symm
    | some x =>
      rw [hg] at hz
      exact (bD_inj (Prod.mk.inj hz).1).symm
  rw [hr, hb]
theorem KmAt.len {w : World} {m : Nat} {L : List Kb} (h : KmAt w m L) (ty : TypeId) : (Builtin.len_ #[67] ty #[.map (some m)]).run Tryz.prog w = .ok (.int .i64 (L.length : Int)) w := by
  have := World.ownsMap.len h Tryz.mapT ty
  rwa [dM_size] at this
/-- 'm[k] = x'. -/
theorem KmAt.put {w : World} {m : Nat} {L : List Kb} (h : KmAt w m L) (hr : Rise L) (hf : L.length ≤ 1000) (k : ByteArray) (hk : k.size ≤ maxLen) (b : Nat) :
    ∃ w', (Instr.mapUpdate 67 (.map (some m)) (.string k) (.float .f64 b)).run Tryz.prog w = .ok () w' ∧ KmAt w' m (putK k b L) ∧ w.grownBy w' (some m) := by
  obtain ⟨w', h1, h2, h3⟩ := World.ownsMap.update h str_keyed Tryz.mapT (by unfold maxLen; omega) (str_key k hk) (fltE_mk b)
  refine ⟨w', h1, ?_, h3⟩
  have e := dM_putD hr k b
  unfold bD at e
  rw [e] at h2
  exact KmAt.of h2
theorem KmAt.cut {w : World} {m : Nat} {L : List Kb} (h : KmAt w m L) (k : ByteArray) (hk : k.size ≤ maxLen) (ty : TypeId) :
    ∃ w', (Builtin.delete_ #[67, 9] ty #[.map (some m), .string k]).run Tryz.prog w = .ok (.tuple #[]) w' ∧ KmAt w' m (cutK k L) ∧ w.grownBy w' (some m) := by
  obtain ⟨w', h1, h2, h3⟩ := World.ownsMap.drop h str_keyed Tryz.mapT (str_key k hk) ty
  rw [dM_delD] at h2
  exact ⟨w', h1, KmAt.of h2, h3.grown⟩
theorem KmAt.made (w : World) : KmAt (w.alloc (.map #[] 0)) w.heap.size [] := World.ownsMap_made w Tryz.prog _ _
/-- The keys, sorted: as they stand. -/
theorem keys_of (L : List Kb) : strKeys (dM L) = L.map fun y => y.1.data.toList := by
  simp [strKeys, dM, eD, strOf, keyL, List.map_map, Function.comp_def]
theorem keys_sorted {L : List Kb} (h : Rise L) {ss : List (List UInt8)} (hp : ss.Perm (L.map fun y => y.1.data.toList)) : ss.mergeSort leB = L.map fun y => y.1.data.toList := by
  rw [mergeSort_of_perm hp]
  refine List.mergeSort_of_pairwise ?_
  refine List.pairwise_map.2 (h.imp fun {x y} hxy => ?_)
  have := of_decide_eq_true hxy
  exact decide_eq_true (List.le_of_lt this)
end Go.Proofs.YtecidbdbdnnglaaGreat
