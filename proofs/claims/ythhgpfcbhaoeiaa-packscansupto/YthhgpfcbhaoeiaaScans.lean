/- PackScans is proved, where what comes in is of bulk at most 1048576: for every shape and every text, a scan tells just what the document says, or its first error. -/
import Derived.Test.YthhgpfcbhaoeiaaRows
import Derived.Test.YthhgpfcbhaoeiaaPkL
import Derived.Test.YthhgpfcbhaoeiaaMrS
import Derived.ProofKit
import Derived.OpenShut
import Derived.ShutString
import Derived.JoinedCond
namespace Go.Proofs.Ythhgpfcbhaoeiaa
open Go.ChangeShapes Go.WideShapes Go.ChangeAt Go.RowKit
open Go.ChangeMaps (open_string shut_string)

theorem Try.own : ownKnob Try.prog.godebug = none := by kernel_rfl

theorem vC_at (V : List (Nat × Nat × ByteArray)) : ∀ (i : Nat) (x : Nat × Nat × ByteArray), V[i]? = some x → (vC V)[i * 3]? = some (.int .i64 (x.1 : Int)) ∧ (vC V)[i * 3 + 1]? = some (.int .u64 (x.2.1 : Int)) ∧ (vC V)[i * 3 + 2]? = some (.string x.2.2) := by
  induction V with
  | nil => intro i x h; simp at h
  | cons y r ih =>
    intro i x h
    have e : vC (y :: r) = .int .i64 (y.1 : Int) :: .int .u64 (y.2.1 : Int) :: .string y.2.2 :: vC r := by simp [vC]
    rw [e]
    cases i with
    | zero =>
      simp at h
      subst h
      simp
    | succ i =>
      have := ih i x (by simpa using h)
      have e1 : (i + 1) * 3 = i * 3 + 3 := by omega
      rw [e1]
      simpa using this

theorem below_drewN {B : Nat} {a w : World} (n : Nat) (h : Below B a w) : Below B a (w.drewN n) := by
  induction n with
  | zero => exact h
  | succ n ih => exact ih.drew
theorem slice_form {w : World} {base : Nat} {t : TypeId} {size : Nat} {v : Value} {n : Nat} {xs : List Value} (h : w.ownsRow base t size v n xs) : ∃ a cap, v = .slice a n cap := by
  rcases h.2 with ⟨hv, h0⟩ | ⟨g, cap, cur, hv, _⟩
  · exact ⟨none, 0, by rw [hv, h0]⟩
  · exact ⟨_, _, hv⟩

set_option maxRecDepth 100000 in
set_option maxHeartbeats 6400000 in
theorem packScans_walk (sh t : ByteArray) (w : World) (hs : sh.size ≤ 1048576) (ht : t.size ≤ 9223372036854775807) :
    Calls Try.prog 5 #[.string sh, .string t] w fun e w' => e = .returned (.bool true) ∧ Below w.heap.size w w' := by
  go_enter Try.func5, Try.ntmps5
  go_wp2_with fail
  refine (lives_any w).mono ?_
  rintro e w1 ⟨rfl, hb⟩
  have HB := hid hb
  clear hb
  go_wp2_with fail
  refine (scan_any sh t w1 (by omega)).mono ?_
  rintro e w2 ⟨v, rfl, hv2, hb2⟩
  have H2 := hid (And.intro hv2 hb2)
  clear hv2 hb2
  go_wp2_with fail
  refine (mscan_any sh t w2 (by omega) ht).mono ?_
  rintro e w3 ⟨u, rfl, hu3, hb3⟩
  obtain ⟨V, hV⟩ : ∃ V, scV sh t = V := ⟨_, rfl⟩
  obtain ⟨E, hE⟩ : ∃ E, scE sh t = E := ⟨_, rfl⟩
  have hv := H2.out.1
  rw [hV] at hu3 hv
  rw [hE]
  have hv3 : w3.ownsRow w1.heap.size 56 3 v V.length (vC V) := by
    refine ⟨hv.1, ?_⟩
    rcases hv.2 with h2 | ⟨g, cap, cur, hvv, hg, hh, r⟩
    · exact .inl h2
    · exact .inr ⟨g, cap, cur, hvv, hg, by rw [hb3.block g (lt_of_blk hh)]; exact hh, r⟩
  have hbel : Below w.heap.size w w3 := (HB.out.trans (H2.out.2.mono HB.out.size)).trans (hb3.mono (by have := H2.out.2.size; have := HB.out.size; omega))
  have H3 := hid (And.intro hv3 (And.intro hu3 hbel))
  obtain ⟨av, capv, hfv⟩ := slice_form hv3
  obtain ⟨au, capu, hfu⟩ := slice_form hu3
  rw [hfv, hfu]
  rw [hfv, hfu] at H3
  have hVl : V.length * 3 ≤ 9223372036854775807 := by
    have h1 : V.length ≤ sh.size := by
      rw [← hV]
      unfold scV
      split
      · split
        · simp
        · rename_i x hx
          split
          · simp
          · have := scn_len _ _ _ hx
            rw [this, Array.length_toList]
            exact Nat.le_refl _
      · simp
    omega
  clear hu3 hb3 hv hv3 hbel hV hE hfv hfu
  go_wp2_with fail
  go_loopw [9] (fun i wr => ∃ (k nq : Nat), k ≤ V.length ∧ i = .int .i64 k ∧ wr = w3.drewN nq) (fun i _ => V.length - (intOf i).toNat)
  case atStart => exact ⟨0, 0, Nat.zero_le _, rfl, rfl⟩
  case round =>
    obtain ⟨k, nq, hk, rfl, rfl⟩ := hrel
    by_cases hlt : k < V.length
    · obtain ⟨g, cap, hg, -, -⟩ := H3.out.1.form (by omega)
      obtain ⟨h, cap', hh, -, -⟩ := H3.out.2.1.form (by omega)
      simp only [Value.slice.injEq] at hg hh
      obtain ⟨x, hx⟩ : ∃ x, V[k]? = some x := ⟨V[k], List.getElem?_eq_getElem hlt⟩
      obtain ⟨a0, a1, a2⟩ := vC_at V k x hx
      have c0 := H3.out.1.cells (g := g) (by rw [hg.1]; rfl) _ _ a0
      have c1 := H3.out.1.cells (g := g) (by rw [hg.1]; rfl) _ _ a1
      have c2 := H3.out.1.cells (g := g) (by rw [hg.1]; rfl) _ _ a2
      have d0 := H3.out.2.1.cells (g := h) (by rw [hh.1]; rfl) _ _ a0
      have d1 := H3.out.2.1.cells (g := h) (by rw [hh.1]; rfl) _ _ a1
      have d2 := H3.out.2.1.cells (g := h) (by rw [hh.1]; rfl) _ _ a2
      simp only [Addr.add_lit, Nat.zero_add] at c0 c1 c2 d0 d1 d2
      rw [hg.1, hh.1]
      have i0 : (0 : Int) ≤ (k : Int) := Int.natCast_nonneg _
      have i1 : (k : Int) < (V.length : Int) := by omega
      clear hg hh hx a0 a1 a2
      go_wp2_with fail
      go_quiet (fail)
      go_wp2
      go_roundw
      case rel => exact ⟨k + 1, _, by omega, by go_num, rfl⟩
      case measure => simp [intOf]; omega
    · go_wp2
      go_ret
      exact ⟨rfl, below_drewN _ H3.out.2.2⟩

set_option maxRecDepth 100000 in
theorem packScans_contract (H : Type) (enc : TypeId × Value → H) (W : World) (base : Nat) (args : Array Value) (ds gs : List (DataW H)) (before : List MemPlace)
    (hval : ∀ (j : Nat) t v, Try.f5.params[j]? = some t → args[j]? = some v → Value.okWide Try.prog W .any base t v)
    (hW : DataW.Whole enc Try.prog Try.f5.params.toList Rows.packScansSpec.vars false W args.toList ds gs before) (hk : Rows.uptoSmall H (ds ++ gs) = true) :
    Calls Try.prog 5 args W fun e W' => ∃ v, e = .returned v ∧ Rows.packScansSpec.post enc Try.prog Try.f5 false true false false W args v W' := by
  have hW' := hW
  obtain ⟨p, q, hA0, hV, rfl, hfz, hnd⟩ := hW
  have hA : DataW.TrodAll enc Try.prog W 0 (fun _ => true) true Try.f5.params.toList args.toList ds p := hA0
  rw [Try.params5] at hA hval
  obtain ⟨v0, vs0, d0, ds0, p0, q0, hargs, rfl, rfl, h0, r0⟩ := trodAll_cons hA
  obtain ⟨v1, vs1, d1, ds1, p1, q1, rfl, rfl, rfl, h1, r1⟩ := trodAll_cons r0
  obtain ⟨rfl, rfl, rfl⟩ := trodAll_nil r1
  obtain rfl : args = #[v0, v1] := by cases args; simp_all
  obtain ⟨rfl, rfl⟩ := trodVars_none hV
  obtain ⟨a0, rfl, rfl, rfl, w0⟩ := open_string Try.underlying9 (hval 0 9 v0 rfl rfl) h0
  obtain ⟨a1, rfl, rfl, rfl, w1⟩ := open_string Try.underlying9 (hval 1 9 v1 rfl rfl) h1
  clear hA0
  simp only [List.append_nil] at hW' hk
  have hsh : a0.size ≤ 1048576 := by
    have h : Rows.uptoBulkAll [DataW.lit (H := H) (.string a0.data.toList), .lit (.string a1.data.toList)] ≤ 1048576 := of_decide_eq_true hk
    simp only [Rows.uptoBulkAll, Rows.uptoBulk] at h
    have e : a0.data.toList.length = a0.size := by rw [Array.length_toList]; rfl
    omega
  refine (packScans_walk a0 a1 W hsh w1).mono fun e W' ⟨he, bel⟩ => ?_
  subst he
  exact ⟨_, rfl, _, _, _, [], [], [], hW', trodAll_mk1 (shut_bool Try.underlying4 _), (trodAll_cons_mk (shut_string Try.underlying9 w0) (trodAll_cons_mk (shut_string Try.underlying9 w1) trodAll_mk0)), rfl, bel.frame _, fun h => by cases h⟩

set_option maxRecDepth 100000 in
theorem packScans_lifted (os : Os) (started : os.Started) (H : Type) (enc : TypeId × Value → H) (F : Stop.Interp) :
    ReturnsInHanded {} Try.checked os 5 .any ((Rows.OpenSpec.upto Rows.packScansSpec).pre6 enc Try.prog Try.f5 Rows.packScansUptoRow.domain false) (((Rows.OpenSpec.upto Rows.packScansSpec).at F).post enc Try.prog Try.f5 false true false false) := by
  refine returnsInHanded_of_cond (C := Try.checked) (s := Rows.OpenSpec.upto Rows.packScansSpec) (k := Rows.uptoSmall) rfl Try.own started (by kernel_rfl) Try.func5
    (OpenSpec.witness (enc := enc) (C := Try.checked) (s := Rows.OpenSpec.upto Rows.packScansSpec) (k := Rows.uptoSmall) rfl false ⟨#[], #[.string ByteArray.empty, .string ByteArray.empty], []⟩ 8 (by kernel_rfl) (by kernel_rfl) (by kernel_rfl)
      (x := ([.lit (.string []), .lit (.string [])], [], [])) (by kernel_rfl) rfl (by kernel_rfl)) ?_
  intro W base args ds gs before hval hW _ hk _
  exact packScans_contract H enc W base args ds gs before hval hW hk

theorem packScans_upto : Rows.PackScansUptoSaid :=
  OpenClaim.holds_of_cond 5 Try.f5 rfl rfl rfl rfl rfl rfl rfl ⟨rfl, rfl, rfl, rfl, rfl⟩ rfl rfl rfl rfl rfl (by kernel_rfl) Try.func5 (by kernel_rfl)
    (of_decide_eq_true (by kernel_rfl)) (by unfold Func.isWrapper; first | (rw [if_pos (by decide +kernel)]; kernel_rfl) | (rw [if_neg (by decide +kernel)]; exact ⟨rfl, rfl⟩))
    (fun os started H enc _ F => packScans_lifted os started H enc F)
#print axioms packScans_upto

end Go.Proofs.Ythhgpfcbhaoeiaa
