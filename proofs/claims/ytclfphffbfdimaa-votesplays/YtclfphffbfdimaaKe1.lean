/- Texts laid together: HlA VoC VoD VoE VoG. -/
import Derived.Test.YtclfphffbfdimaaKa1
import Derived.OrdersHeld
import Derived.Test.YtclfphffbfdimaaKc1
import Derived.Test.YtclfphffbfdimaaKd1
import Derived.OwnWalk
import Derived.Test.YtclfphffbfdimaaKb1
/- Regions that draw, reads taken first, where what stands at their end writes what was read: behind the operations named (they wait for all that is taken) the condition need not hold. -/
namespace Go.Proofs.Ytclfphffbfdimaa
open Go.RowKit

section
variable {P : Program} {ops : Array Oper} {Q : Exit → Act → World → Prop} {md : Region.Mode} {S : World → Prop} {ex : List Nat}
/-- k waits for i. -/
def reachB (md : Region.Mode) (ops : Array Oper) : Nat → Nat → Nat → Bool
  | 0, _, _ => false
  | n + 1, k, i => match ops[k]? with
    | none => false
    | some o => o.after.any fun e => Region.binds md e && (e.on == i || reachB md ops n e.on i)
def Closed (md : Region.Mode) (ops : Array Oper) (listed : Array Bool) : Prop := ∀ (j : Nat) (o : Oper), ops[j]? = some o → listed.getD j false = true → ∀ e ∈ o.after, Region.binds md e = true → listed.getD e.on false = true
def closedB (md : Region.Mode) (ops : Array Oper) (listed : Array Bool) : Bool := (List.range ops.size).all fun j => !(listed.getD j false) || match ops[j]? with
  | none => true
  | some o => o.after.all fun e => !(Region.binds md e) || listed.getD e.on false
theorem closed_of {listed : Array Bool} (h : closedB md ops listed = true) : Closed md ops listed := fun j o ho hl e he hb => by
  have hj : j < ops.size := (Array.getElem?_eq_some_iff.1 ho).1
  have h1 := List.all_eq_true.1 h j (List.mem_range.2 hj)
  simp only [hl, ho, Bool.not_true, Bool.false_or] at h1
  have h2 := Array.all_eq_true_iff_forall_mem.1 h1 e he
  simpa [hb] using h2
theorem reach_listed {listed : Array Bool} (hc : Closed md ops listed) {i : Nat} : ∀ (n k : Nat), reachB md ops n k i = true → (∀ o, ops[k]? = some o → ∀ e ∈ o.after, Region.binds md e = true → listed.getD e.on false = true) → listed.getD i false = true
  | 0, _, h, _ => by simp [reachB] at h
  | n + 1, k, h, hk => by
    rw [reachB] at h
    cases ho : ops[k]? with
    | none => rw [ho] at h; cases h
    | some o =>
      rw [ho] at h
      obtain ⟨q, hq, h1⟩ := Array.any_eq_true.1 h
      have he := Array.getElem_mem hq
      generalize o.after[q] = e at he h1
      rw [Bool.and_eq_true, Bool.or_eq_true] at h1
      have hl := hk o ho e he h1.1
      rcases h1.2 with h2 | h2
      · rw [beq_iff_eq] at h2
        rw [← h2]
        exact hl
      · exact reach_listed hc n e.on h2 (fun o' ho' e' he' hb' => hc e.on o' ho' hl e' he' hb')
theorem closed_step {listed : Array Bool} (hc : Closed md ops listed) {j : Nat} (hj : j ∈ Region.ready md ops listed) : Closed md ops (listed.setIfInBounds j true) := fun k o ho hl e he hb => by
  by_cases hkj : j = k
  · subst hkj
    obtain ⟨_, o', ho', hall⟩ := mem_ready.1 hj
    rw [ho] at ho'
    cases ho'
    exact getD_set_true (hall e he hb)
  · rw [getD_set_ne false hkj] at hl
    exact getD_set_true (hc k o ho hl e he hb)
def wpAnyG (P : Program) (md : Region.Mode) (ops : Array Oper) (Q : Exit → Act → World → Prop) (S : World → Prop) (ex : List Nat) : Nat → Array Bool → Act → World → Prop
  | 0, listed, a, w => Region.ready md ops listed = [] ∧ Q .normal a w
  | fuel + 1, listed, a, w =>
    (Region.ready md ops listed = [] → Q .normal a w) ∧
    ∀ i ∈ Region.ready md ops listed, wpOp P ops Q i (fun a' w' => (i ∉ ex → S w') ∧ wpAnyG P md ops Q S ex fuel (listed.setIfInBounds i true) a' w') a w
theorem wpAny_of_G : ∀ (fuel : Nat) (listed : Array Bool) (a : Act) (w : World), wpAnyG P md ops Q S ex fuel listed a w → wpAny P md ops Q fuel listed a w
  | 0, _, _, _, h => h
  | fuel + 1, _, _, _, h => ⟨h.1, fun i hi => wpOp_mono (fun a' w' h' => wpAny_of_G fuel _ a' w' h'.2) (h.2 i hi)⟩
theorem wpAnyG_first {i : Nat} {oi : Oper} {v : Value} (hi : ops[i]? = some oi) (hsel : ∀ (j : Nat) (o : Oper) cs b, ops[j]? = some o → o.op ≠ .select cs b)
    (hQ : ∀ c a w, Q (.panic c) (a.put oi.dst v) w → Q (.panic c) a w) (N : Nat) (hex : ∀ k, k ∈ ex → reachB md ops N k i = true) :
    ∀ (fuel : Nat) (listed : Array Bool) (a : Act) (w : World), Closed md ops listed →
      (∀ j oj, ops[j]? = some oj → j ≠ i → listed.getD j true = false → (∀ e ∈ oj.after, Region.binds md e = true → e.on ≠ i) → oi.apart ops oj = true) →
      i ∈ Region.ready md ops listed → YieldsIf P ops S oi v a → S w →
      wpAnyG P md ops Q S ex fuel (listed.setIfInBounds i true) (a.put oi.dst v) w → wpAnyG P md ops Q S ex (fuel + 1) listed a w := by
  intro fuel
  induction fuel with
  | zero =>
    intro listed a w _ _ hr hy hS H
    refine ⟨fun h => (by rw [h] at hr; cases hr), fun j hj => ?_⟩
    by_cases hji : j = i
    · subst hji; exact hy.wpOp hi hS ⟨fun _ => hS, H⟩
    · have := ready_mono hj hji
      rw [H.1] at this
      cases this
  | succ fuel ih =>
    intro listed a w hcl hfree hr hy hS H
    refine ⟨fun h => (by rw [h] at hr; cases hr), fun j hj => ?_⟩
    by_cases hji : j = i
    · subst hji; exact hy.wpOp hi hS ⟨fun _ => hS, H⟩
    · have h1 := H.2 j (ready_mono hj hji)
      obtain ⟨hjun, oj, hoj, hall⟩ := mem_ready.1 hj
      have hun := (mem_ready.1 hr).1
      have hnex : j ∉ ex := fun hje => by
        have hl := reach_listed hcl N j (hex j hje) (fun o ho e he hb => by rw [hoj] at ho; cases ho; exact hall e he hb)
        rcases Nat.lt_or_ge i listed.size with h' | h'
        · simp [h'] at hun hl; rw [hun] at hl; cases hl
        · simp [Array.getElem?_eq_none h'] at hl
      have hnot : ∀ e ∈ oj.after, Region.binds md e = true → e.on ≠ i := fun e he hb heq => by
        have h1 := hall e he hb
        rw [heq] at h1
        rcases Nat.lt_or_ge i listed.size with h' | h'
        · simp [h'] at hun h1; rw [hun] at h1; cases h1
        · simp [Array.getElem?_eq_none h'] at h1
      have h2 := wpOp_putIf hoj (hfree j oj hoj hji hjun hnot) (fun cs b => hsel i oi cs b hi) (fun cs b => hsel j oj cs b hoj) hQ hy h1
      have hfree' : ∀ k ok, ops[k]? = some ok → k ≠ i → (listed.setIfInBounds j true).getD k true = false →
          (∀ e ∈ ok.after, Region.binds md e = true → e.on ≠ i) → oi.apart ops ok = true := fun k ok hk hki hun hno => by
        refine hfree k ok hk hki ?_ hno
        by_cases hjk : j = k
        · subst hjk; exact hjun
        · rw [getD_set_ne true hjk] at hun; exact hun
      refine wpOp_mono (fun a' w' h3 => ⟨h3.2.1, ih (listed.setIfInBounds j true) a' w' (closed_step hcl hj) hfree' (ready_mono hr (Ne.symm hji)) h3.1 (h3.2.1 hnex) ?_⟩) h2
      rw [Array.setIfInBounds_comm _ _ hji]
      exact h3.2.2
theorem wpAnyG_take {i : Nat} {oi : Oper} {v : Value} {fuel : Nat} {listed : Array Bool} {a : Act} {w : World} (hi : ops[i]? = some oi)
    (hb : (Region.noSelect ops && (Region.free md ops listed i && ((Region.ready md ops listed).contains i && (closedB md ops listed && ex.all fun k => reachB md ops ops.size k i)))) = true)
    (hQ : ∀ c a w, Q (.panic c) (a.put oi.dst v) w → Q (.panic c) a w) (hy : YieldsIf P ops S oi v a) (hS : S w)
    (h : wpAnyG P md ops Q S ex fuel (listed.setIfInBounds i true) (a.put oi.dst v) w) : wpAnyG P md ops Q S ex (fuel + 1) listed a w := by
  simp only [Bool.and_eq_true] at hb
  obtain ⟨hs, hf, hr, hc, he⟩ := hb
  exact wpAnyG_first hi (Region.noSelect_spec hs) hQ ops.size (fun k hk => List.all_eq_true.1 he k hk) fuel listed a w (closed_of hc) (Region.free_spec hi hf) (by simpa using hr) hy hS h
theorem wpAnyG_all {rs : List Nat} {fuel : Nat} {listed : Array Bool} {a : Act} {w : World} (hr : Region.ready md ops listed = rs) (hne : rs ≠ [])
    (h : ∀ i ∈ rs, wpOp P ops Q i (fun a' w' => (i ∉ ex → S w') ∧ wpAnyG P md ops Q S ex fuel (listed.setIfInBounds i true) a' w') a w) : wpAnyG P md ops Q S ex (fuel + 1) listed a w :=
  ⟨fun h0 => absurd (hr ▸ h0) hne, hr ▸ h⟩
theorem wpAnyG_done {listed : Array Bool} {a : Act} {w : World} (hr : Region.ready md ops listed = []) (h : Q .normal a w) :
    ∀ fuel, wpAnyG P md ops Q S ex fuel listed a w
  | 0 => ⟨hr, h⟩
  | _ + 1 => ⟨fun _ => h, by rw [hr]; simp⟩
theorem wp_region_G {id : Nat} {a : Act} {w : World} (hm : P.follows .mixedOrders = true)
    (h : wpAnyG P .any ops Q S ex ops.size (Array.replicate ops.size false) a { w with drawn := w.drawn + 1 }) : (Code.region id ops true).wp P Q a w :=
  wp_region_any hm (wpAny_of_G _ _ _ _ h)
end
end Go.Proofs.Ytclfphffbfdimaa

/- The program's New: a tally without a vote. -/
namespace Go.Proofs.Ytclfphffbfdimaa
open Go.RowKit

section
variable {P : Program} {ops : Array Oper} {o : Oper} {a : Act} {w : World} {Q : Exit → Act → World → Prop} {K : Act → World → Prop}
theorem wpOp_v {i : Nat} (hi : ops[i]? = some o) (hw : Region.wanted o (yielded ops a.tmps) = true) (h : ∀ K' : Act → World → Prop, (∀ a w, K a w → K' a w) → o.wp P a w K' Q) : wpOp P ops Q i K a w := by
  unfold Go.wpOp
  simp only [hi, hw, if_true]
  exact .inl (h _ (fun _ _ h => h))
end
def CvAt (w : World) (b : Nat) (e : Int) (vm : Value) : Prop := w.heap[b]? = some (.cells #[.int .i64 e, vm] 24 (0, 0))
theorem CvAt.cells {w : World} {b : Nat} {e : Int} {vm : Value} (h : CvAt w b e vm) : w.cell? ⟨b, 0, none⟩ = some (.int .i64 e) ∧ w.cell? ⟨b, 1, none⟩ = some vm := cell_two h
theorem CvAt.keep {w w' : World} {b : Nat} {e : Int} {vm : Value} (h : CvAt w b e vm) (hb : Below w.heap.size w w') : CvAt w' b e vm := (hb.block b (lt_of_blk h)).trans h
theorem cv_put {w : World} {b : Nat} {p q x0 x1 : Value} {T : TypeId} (h : w.heap[b]? = some (.cells #[p, q] T (0, 0))) : ((w.setCell ⟨b, 0, none⟩ x0).setCell ⟨b, 1, none⟩ x1).heap[b]? = some (.cells #[x0, x1] T (0, 0)) := by
  have h1 : (w.setCell ⟨b, 0, none⟩ x0).heap[b]? = some (.cells #[x0, q] T (0, 0)) := (blk_set h 0 x0).trans (by simp)
  exact (blk_set h1 1 x1).trans (by simp)
theorem tlC_new (ep : Int) (vm mp : Value) : tlC ep vm (castL []) mp = [.int .i64 ep, vm, .string ⟨#[]⟩, .string ⟨#[]⟩, .string ⟨#[]⟩, .string ⟨#[]⟩, .string ⟨#[]⟩, .string ⟨#[]⟩, .string ⟨#[]⟩, .string ⟨#[]⟩, .string ⟨#[]⟩, .string ⟨#[]⟩, .string ⟨#[]⟩, .string ⟨#[]⟩, .string ⟨#[]⟩, .string ⟨#[]⟩, .string ⟨#[]⟩, .string ⟨#[]⟩, .string ⟨#[]⟩, .string ⟨#[]⟩, .string ⟨#[]⟩, .string ⟨#[]⟩, .string ⟨#[]⟩, .string ⟨#[]⟩, .string ⟨#[]⟩, .string ⟨#[]⟩, .string ⟨#[]⟩, .string ⟨#[]⟩, .string ⟨#[]⟩, .string ⟨#[]⟩, .string ⟨#[]⟩, .string ⟨#[]⟩, .string ⟨#[]⟩, .string ⟨#[]⟩, mp] := rfl
theorem run_makeV (u : World) : (Instr.makeMap 74 none).run Try.prog u = .ok (.map (some u.heap.size)) (u.alloc (.map #[] 0)) := by kernel_rfl
set_option maxRecDepth 100000 in
set_option maxHeartbeats 3200000 in
theorem vnew_no (ep : Int) (a : Option Addr) (n cap : Nat) (l : List Int) (hn : l.length = n) (hm : n ≤ maxLen) (w : World) (hI : IntsIn w a l) (hr : rightC ep l = false) :
    Calls Try.prog 12 #[.agg #[.int .i64 ep, .slice a n cap]] w fun e w' => e = .returned (.tuple #[.pointer none, .int .i64 1]) ∧ Below w.heap.size w w' := by
  have HI := hid hI
  have HR : Hid (∀ u : World, IntsIn u a l → Calls Try.prog 27 #[.agg #[.int .i64 ep, .slice a n cap]] u fun e w' => e = .returned (.bool false) ∧ Below u.heap.size u w') := hid (fun u hu => by rw [← hr]; exact cright_any ep a n cap l hn hm u hu)
  clear hI hr
  go_enter Try.func12, Try.ntmps12
  go_wp2_with (go_at_call 27; refine (HR.out _ (by exact HI.out.alloc _)).mono ?_; rintro e w1 ⟨rfl, hb1⟩; have H1 := hid (((Below.refl w.heap.size w).alloc (Nat.le_refl _) _).trans (hb1.mono (by simp))); clear hb1)
  go_ret2
  exact ⟨rfl, H1.out⟩
/-- What is there when the members are copied. -/
structure NvSt (w0 w : World) (c : Nat) (ep : Int) (a1 : Option Addr) (n c1 : Nat) (l : List Int) : Prop where
  own : CvAt w c ep (.slice a1 n c1)
  ints : NewI w0.heap.size w a1 l
  ne : ∀ x, a1 = some x → x.block ≠ c
  bel : Below w0.heap.size w0 w
  ge : w0.heap.size ≤ c
theorem NvSt.fin {w0 w : World} {c : Nat} {ep : Int} {a1 : Option Addr} {n c1 : Nat} {l : List Int} (h : NvSt w0 w c ep a1 n c1 l) (hn : l.length = n) (hr : rightC ep l = true) :
    TlA ((w.alloc (.map #[] 0)).alloc (.cells (tlC ep (.slice a1 n c1) (castL []) (.map (some w.heap.size))).toArray 79)) (w.heap.size + 1) w.heap.size a1 c1 ⟨ep, l, []⟩ := by
  subst hn
  refine ⟨snd_alloc w _ _, ?_, ?_, by omega, fun x hx => ?_, TOk.new hr⟩
  · exact (h.ints.ints.alloc _).alloc _
  · exact (MpAt.made w).keep (Below.heap_alloc _ _ _ (by simp))
  · have := (h.ints.far x hx).2.lt
    simp
    omega
set_option maxRecDepth 100000 in
set_option maxHeartbeats 6400000 in
theorem vnew_yes (ep : Int) (a : Option Addr) (n cap : Nat) (l : List Int) (hn : l.length = n) (w : World) (hI : IntsIn w a l) (hr : rightC ep l = true) :
    Calls Try.prog 12 #[.agg #[.int .i64 ep, .slice a n cap]] w fun e w' => ∃ g F, e = .returned (.tuple #[.pointer (some ⟨g, 0, none⟩), .int .i64 0]) ∧ TlAt F w' (.pointer (some ⟨g, 0, none⟩)) ⟨ep, l, []⟩ ∧ (∀ b, b ∈ F → w.heap.size ≤ b) ∧ Below w.heap.size w w' := by
  have hml := mem_len (rightC_ep hr).2
  have HI := hid hI
  have HL := hid (And.intro hn (And.intro hr hml))
  have HR : Hid (∀ u : World, IntsIn u a l → Calls Try.prog 27 #[.agg #[.int .i64 ep, .slice a n cap]] u fun e w' => e = .returned (.bool true) ∧ Below u.heap.size u w') := hid (fun u hu => by rw [← hr]; exact cright_any ep a n cap l hn (by unfold maxLen; omega) u hu)
  clear hI hr hml hn
  go_enter Try.func12, Try.ntmps12
  go_wp2_with (go_at_call 27; refine (HR.out _ (by exact HI.out.alloc _)).mono ?_; rintro e w1 ⟨rfl, hb1⟩; have H1 : Hid (CvAt w1 w.heap.size ep (.slice a n cap) ∧ Below w.heap.size w w1) := hid ⟨(hb1.block _ (by simp)).trans (heap_alloc_last w _), ((Below.refl w.heap.size w).alloc (Nat.le_refl _) _).trans (hb1.mono (by simp))⟩; clear hb1)
  have HS : Hid (CvAt w1.drew w.heap.size ep (.slice a n cap)) := hid H1.out.1
  refine wp_region_G (S := fun ww => CvAt ww w.heap.size ep (.slice a n cap)) (ex := []) (by kernel_rfl) ?_
  try (change wpAnyG _ _ _ _ _ _ _ _ _ (World.drew _))
  refine wpAnyG_take (i := 0) (v := ?v1) rfl (by kernel_rfl) (fun _ _ _ h => h) (Or.inl ⟨by rfl, ?hy1⟩) HS.out ?rest1
  case hy1 => (intro ww _; go_simp; try with_reducible rfl)
  go_simp
  refine wpAnyG_take (i := 1) (v := ?v2) rfl (by kernel_rfl) (fun _ _ _ h => h) (Or.inl ⟨by rfl, ?hy2⟩) HS.out ?rest2
  case hy2 => (intro ww hS; obtain ⟨y0, y1⟩ := hS.cells; go_simp; try with_reducible rfl)
  go_simp
  refine wpAnyG_take (i := 2) (v := ?v3) rfl (by kernel_rfl) (fun _ _ _ h => h) (Or.inl ⟨by rfl, ?hy3⟩) HS.out ?rest3
  case hy3 => (intro ww _; go_simp; try with_reducible rfl)
  go_simp
  refine wpAnyG_take (i := 3) (v := ?v4) rfl (by kernel_rfl) (fun _ _ _ h => h) (Or.inl ⟨by rfl, ?hy4⟩) HS.out ?rest4
  case hy4 => (intro ww hS; obtain ⟨y0, y1⟩ := hS.cells; go_simp; try with_reducible rfl)
  go_simp
  refine wpAnyG_all (rs := [4, 6]) (by kernel_rfl) (by simp) ?_
  intro i hi
  rcases List.mem_cons.1 hi with rfl | hi
  · clear hi
    refine wpOp_v rfl (by rfl) (fun K hK => ?_)
    have HB : Hid (Below w.heap.size w w1.drew) := hid H1.out.2.drew
    go_simp
    refine (cloneInts_any a n cap l HL.out.1 (by have := HL.out.2.2; have := HL.out.1; omega) _ (HI.out.keep HB.out (Nat.le_refl _))).mono ?_
    rintro r w2 ⟨a1, c1, rfl, hN2, hb2⟩
    have H2 : Hid (CvAt w2 w.heap.size ep (.slice a n cap) ∧ NewI w.heap.size w2 a1 l ∧ Below w.heap.size w w2) := hid ⟨HS.out.keep hb2, ⟨hN2.ints, fun x hx => ⟨Nat.le_trans HB.out.size (hN2.far x hx).1, (hN2.far x hx).2⟩⟩, HB.out.trans (hb2.mono HB.out.size)⟩
    clear hN2 hb2
    refine hK _ _ ⟨fun _ => H2.out.1, ?_⟩
    clear hK K
    go_simp
    refine wpAnyG_take (i := 5) (v := ?v5) rfl (by kernel_rfl) (fun _ _ _ h => h) (Or.inl ⟨by rfl, ?hy5⟩) H2.out.1 ?rest5
    case hy5 => (intro ww _; go_simp; try with_reducible rfl)
    go_simp
    refine wpAnyG_all (rs := [6]) (by kernel_rfl) (by simp) ?_
    intro i hi
    obtain rfl := List.mem_singleton.1 hi
    clear hi
    refine wpOp_v rfl (by rfl) (fun K hK => ?_)
    go_simp
    have H3 : Hid (CvAt (w2.alloc (.cells #[.int .i64 0, .slice none 0 0] 24)) w.heap.size ep (.slice a n cap)) := hid (H2.out.1.keep ((Below.refl _ _).alloc (Nat.le_refl _) _))
    refine hK _ _ ⟨fun _ => H3.out, ?_⟩
    clear hK K
    go_simp
    refine wpAnyG_all (rs := [7]) (by kernel_rfl) (by simp) ?_
    intro i hi
    obtain rfl := List.mem_singleton.1 hi
    clear hi
    refine wpOp_v rfl (by rfl) (fun K hK => ?_)
    go_simp
    have H4 : Hid (NvSt w (w2.alloc (.cells #[.int .i64 ep, .slice a1 n c1] 24)) w2.heap.size ep a1 n c1 l) := hid ⟨heap_alloc_last w2 _, H2.out.2.1.keep ((Below.refl _ _).alloc (Nat.le_refl _) _), fun x hx => Nat.ne_of_lt (H2.out.2.1.far x hx).2.lt, H2.out.2.2.trans (((Below.refl _ _).alloc (Nat.le_refl _) _).mono H2.out.2.2.size), H2.out.2.2.size⟩
    have H5 : Hid (CvAt (w2.alloc (.cells #[.int .i64 ep, .slice a1 n c1] 24)) w.heap.size ep (.slice a n cap)) := hid (H2.out.1.keep ((Below.refl _ _).alloc (Nat.le_refl _) _))
    refine hK _ _ ⟨fun _ => H5.out, ?_⟩
    clear hK K
    go_simp
    refine wpAnyG_done (by kernel_rfl) ?_ _
    go_simp
    obtain ⟨w5, e5⟩ : ∃ w5, w5 = w2.alloc (.cells #[.int .i64 ep, .slice a1 n c1] 24) := ⟨_, rfl⟩
    obtain ⟨c5, ec⟩ : ∃ c5, c5 = w2.heap.size := ⟨_, rfl⟩
    rw [← e5, ← ec] at H4
    try rw [← e5]
    try rw [← ec]
    have x0 := H4.out.own.cells.1
    have x1 := H4.out.own.cells.2
    clear ec e5 H5
    have hmk := fun u : World => run_makeV u
    go_wp2
    go_ret2
    have H6 := NvSt.fin H4.out HL.out.1 HL.out.2.1
    rw [tlC_new] at H6
    refine ⟨_, _, rfl, H6.at, fun b hb => ?_, (H4.out.bel.alloc H4.out.bel.size _).alloc (by have := H4.out.bel.size; simp; omega) _⟩
    have hz := H4.out.bel.size
    rcases mem_fpT.1 hb with rfl | rfl | ⟨x, hx, rfl⟩
    · omega
    · exact hz
    · exact (H4.out.ints.far x hx).1
  · obtain rfl := List.mem_singleton.1 hi
    clear hi
    refine wpOp_v rfl (by rfl) (fun K hK => ?_)
    go_simp
    have HB : Hid (Below w.heap.size w (w1.alloc (.cells #[.int .i64 0, .slice none 0 0] 24)).drew) := hid (H1.out.2.trans (((Below.refl _ _).alloc (Nat.le_refl _) _).mono H1.out.2.size)).drew
    have H2 : Hid (CvAt (w1.alloc (.cells #[.int .i64 0, .slice none 0 0] 24)).drew w.heap.size ep (.slice a n cap)) := hid (H1.out.1.keep (((Below.refl _ _).alloc (Nat.le_refl _) _).drew))
    have H2b : Hid (CvAt (w1.alloc (.cells #[.int .i64 0, .slice none 0 0] 24)).drew w1.heap.size 0 (.slice none 0 0)) := hid (heap_alloc_last w1 _)
    refine hK _ _ ⟨fun _ => H2.out, ?_⟩
    clear hK K
    go_simp
    refine wpAnyG_all (rs := [4]) (by kernel_rfl) (by simp) ?_
    intro i hi
    obtain rfl := List.mem_singleton.1 hi
    clear hi
    refine wpOp_v rfl (by rfl) (fun K hK => ?_)
    go_simp
    refine (cloneInts_any a n cap l HL.out.1 (by have := HL.out.2.2; have := HL.out.1; omega) _ (HI.out.keep HB.out (Nat.le_refl _))).mono ?_
    rintro r w2 ⟨a1, c1, rfl, hN2, hb2⟩
    have H3 : Hid (CvAt w2 w.heap.size ep (.slice a n cap) ∧ NewI (w1.heap.size + 1) w2 a1 l ∧ Below w.heap.size w w2 ∧ CvAt w2 w1.heap.size 0 (.slice none 0 0)) := hid ⟨H2.out.keep hb2, ⟨hN2.ints, fun x hx => ⟨(by have := (hN2.far x hx).1; simpa using this), (hN2.far x hx).2⟩⟩, HB.out.trans (hb2.mono HB.out.size), H2b.out.keep hb2⟩
    clear hN2 hb2 H2b HB H2
    refine hK _ _ ⟨fun _ => H3.out.1, ?_⟩
    clear hK K
    go_simp
    refine wpAnyG_take (i := 5) (v := ?v6) rfl (by kernel_rfl) (fun _ _ _ h => h) (Or.inl ⟨by rfl, ?hy6⟩) H3.out.1 ?rest6
    case hy6 => (intro ww _; go_simp; try with_reducible rfl)
    go_simp
    have f0 := free_at H3.out.2.2.2 0
    have f1 := free_at H3.out.2.2.2 1
    have z0 := H3.out.2.2.2.cells.1
    have z1 := H3.out.2.2.2.cells.2
    refine wpAnyG_all (rs := [7]) (by kernel_rfl) (by simp) ?_
    intro i hi
    obtain rfl := List.mem_singleton.1 hi
    clear hi
    refine wpOp_v rfl (by rfl) (fun K hK => ?_)
    go_simp
    clear f0 f1 z0 z1
    have HE : Hid (∀ k, k ≠ w1.heap.size → ((w2.setCell ⟨w1.heap.size, 0, none⟩ (.int .i64 ep)).setCell ⟨w1.heap.size, 1, none⟩ (.slice a1 n c1)).heap[k]? = w2.heap[k]?) := hid (fun k hk => (Below.heap_setCell _ _ _ _ hk).trans (Below.heap_setCell _ _ _ _ hk))
    have hlt := lt_of_blk H1.out.1
    have hle := H1.out.2.size
    have H4 : Hid (NvSt w ((w2.setCell ⟨w1.heap.size, 0, none⟩ (.int .i64 ep)).setCell ⟨w1.heap.size, 1, none⟩ (.slice a1 n c1)) w1.heap.size ep a1 n c1 l) := hid ⟨cv_put H3.out.2.2.2, ⟨ints_stayV H3.out.2.1.ints (by simp) (fun x hx => HE.out _ (by have := (H3.out.2.1.far x hx).1; omega)), fun x hx => ⟨by have := (H3.out.2.1.far x hx).1; omega, (H3.out.2.1.far x hx).2.keep (HE.out _ (by have := (H3.out.2.1.far x hx).1; omega))⟩⟩, (fun x hx => by have := (H3.out.2.1.far x hx).1; omega), ⟨H3.out.2.2.1.os, H3.out.2.2.1.tape, H3.out.2.2.1.output, (by simpa using H3.out.2.2.1.size), fun k hk => (HE.out k (by omega)).trans (H3.out.2.2.1.block k hk)⟩, hle⟩
    have H5 : Hid (CvAt ((w2.setCell ⟨w1.heap.size, 0, none⟩ (.int .i64 ep)).setCell ⟨w1.heap.size, 1, none⟩ (.slice a1 n c1)) w.heap.size ep (.slice a n cap)) := hid ((HE.out _ (by omega)).trans H3.out.1)
    clear HE hlt hle
    refine hK _ _ ⟨fun _ => H5.out, ?_⟩
    clear hK K
    go_simp
    refine wpAnyG_done (by kernel_rfl) ?_ _
    go_simp
    obtain ⟨w5, e5⟩ : ∃ w5, w5 = (w2.setCell ⟨w1.heap.size, 0, none⟩ (.int .i64 ep)).setCell ⟨w1.heap.size, 1, none⟩ (.slice a1 n c1) := ⟨_, rfl⟩
    obtain ⟨c5, ec⟩ : ∃ c5, c5 = w1.heap.size := ⟨_, rfl⟩
    rw [← e5, ← ec] at H4
    try rw [← e5]
    try rw [← ec]
    have x0 := H4.out.own.cells.1
    have x1 := H4.out.own.cells.2
    clear ec e5 H5
    have hmk := fun u : World => run_makeV u
    go_wp2
    go_ret2
    have H6 := NvSt.fin H4.out HL.out.1 HL.out.2.1
    rw [tlC_new] at H6
    refine ⟨_, _, rfl, H6.at, fun b hb => ?_, (H4.out.bel.alloc H4.out.bel.size _).alloc (by have := H4.out.bel.size; simp; omega) _⟩
    have hz := H4.out.bel.size
    rcases mem_fpT.1 hb with rfl | rfl | ⟨x, hx, rfl⟩
    · omega
    · exact hz
    · exact (H4.out.ints.far x hx).1
end Go.Proofs.Ytclfphffbfdimaa

/- The program's tally: has somebody voted? -/
namespace Go.Proofs.Ytclfphffbfdimaa
open Go.RowKit

set_option maxRecDepth 100000 in
set_option maxHeartbeats 1600000 in
theorem vvoted_any (g m : Nat) (am : Option Addr) (cm : Nat) (s : Ta) (X : Nat) (hX : X < 16) (w : World) (h : TlA w g m am cm s) :
    Calls Try.prog 38 #[.pointer (some ⟨g, 0, none⟩), .int .i64 (X : Int)] w fun e w' => e = .returned (.bool (voted s.vs (X : Int))) ∧ w' = w := by
  obtain ⟨x0, x1⟩ := h.cc X hX
  have hX1 : (X : Int) < 16 := by omega
  have hX0 : (0 : Int) ≤ (X : Int) := Int.natCast_nonneg _
  cases hv : voted s.vs (X : Int) with
  | false =>
    rw [castOf_none hv] at x0 x1
    have z0 : w.cell? ⟨g, 2 + X * 2, none⟩ = some (.string ⟨#[]⟩) := x0
    have z1 : w.cell? ⟨g, 2 + X * 2 + 1, none⟩ = some (.string ⟨#[]⟩) := x1
    clear x0 x1 hv h hX
    go_enter Try.func38, Try.ntmps38
    go_wp2
    go_ret
    exact ⟨rfl, rfl⟩
  | true =>
    obtain ⟨v, hv2, _, e2⟩ := voted_ex h.ok.nod hv
    have h1 := (h.ok.bal v hv2).1
    rw [← e2] at h1
    obtain ⟨A, eA⟩ : ∃ A, A = (castOf s.vs (X : Int)).1 := ⟨_, rfl⟩
    obtain ⟨B, eB⟩ : ∃ B, B = (castOf s.vs (X : Int)).2 := ⟨_, rfl⟩
    rw [← eA] at x0 h1
    rw [← eB] at x1
    have hA : A.toList.isEmpty = false := by rw [text_none, decide_eq_true h1]; rfl
    clear hv h hX hv2 e2 eA eB h1
    go_enter Try.func38, Try.ntmps38
    go_wp2
    go_ret
    exact ⟨rfl, rfl⟩
end Go.Proofs.Ytclfphffbfdimaa

/- The program's tally: what a quorum voted for. -/
namespace Go.Proofs.Ytclfphffbfdimaa
open Go.RowKit

def chB (s : Ta) : Bl := (chosenOf s).getD noB
def chF (s : Ta) : Bool := (chosenOf s).isSome
theorem load_bl (w : World) (b : Nat) (x y : Value) (c0 : w.cell? ⟨b, 0, none⟩ = some x) (c1 : w.cell? ⟨b, 1, none⟩ = some y) : (loadVar 76 ⟨b, 0, none⟩).run Try.prog w = .ok (.agg #[x, y]) w := by
  go_simp
theorem castOf_fit {s : Ta} (h : TOk s) (i : Int) : fitB (castOf s.vs i) := by
  cases hv : voted s.vs i with
  | false => rw [castOf_none hv]; exact ⟨by decide, by decide⟩
  | true =>
    obtain ⟨v, hv2, _, e2⟩ := voted_ex h.nod hv
    obtain ⟨_, h2, nx, h3, h4⟩ := h.bal v hv2
    rw [e2]
    refine ⟨by unfold maxLen; omega, ?_⟩
    rw [h4, textC, if_pos h3]
    have h5 := mem_len (rightC_ep h3).2
    show (ByteArray.mk _).size ≤ _
    rw [mk_size, confB]
    simp only [List.length_append, memBytes_len, be_len]
    unfold maxLen
    omega
/-- While a quorum is sought. -/
structure ChSt (w0 w : World) (s : Ta) (g m : Nat) (am : Option Addr) (cm : Nat) : Prop where
  res : w.heap[w0.heap.size]? = some (.cells #[.string ⟨#[]⟩, .string ⟨#[]⟩] 76 (0, 0))
  tl : TlA w g m am cm s
  bel : Below w0.heap.size w0 w
  far : ∀ b, b ∈ fpT g m am → b < w0.heap.size
theorem ChSt.keep {w0 w w' : World} {s : Ta} {g m : Nat} {am : Option Addr} {cm : Nat} (h : ChSt w0 w s g m am cm) (hb : Below w.heap.size w w') : ChSt w0 w' s g m am cm :=
  ⟨(hb.block _ (lt_of_blk h.res)).trans h.res, h.tl.keep hb, h.bel.trans (hb.mono h.bel.size), h.far⟩
theorem ChSt.drew {w0 w : World} {s : Ta} {g m : Nat} {am : Option Addr} {cm : Nat} (h : ChSt w0 w s g m am cm) : ChSt w0 w.drew s g m am cm := h.keep (Below.refl _ _).drew
theorem find_none {l : List Int} {p : Int → Bool} (h : ∀ i, i < l.length → p (l.getD i 0) = false) : l.find? p = none := by
  rw [List.find?_eq_none]
  intro x hx hp
  obtain ⟨i, hi, rfl⟩ := List.getElem_of_mem hx
  have := h i hi
  rw [getD_get l i hi] at this
  rw [this] at hp
  cases hp
theorem find_first {l : List Int} {p : Int → Bool} {j : Nat} (hj : j < l.length) (h : ∀ i, i < j → p (l.getD i 0) = false) (hp : p (l.getD j 0) = true) : l.find? p = some (l.getD j 0) := by
  rw [getD_get l j hj] at hp ⊢
  have h1 : (l.take j).find? p = none := find_none (fun i hi => by
    rw [List.length_take] at hi
    have := h i (by omega)
    rwa [show (l.take j).getD i 0 = l.getD i 0 by simp [List.getD, show i < j by omega]])
  conv => lhs; rw [← List.take_append_drop j l]
  rw [List.find?_append, h1, List.drop_eq_getElem_cons hj, Option.none_or, List.find?_cons, hp]
set_option maxRecDepth 100000 in
set_option maxHeartbeats 1600000 in
theorem vchosen_nil (w : World) : Calls Try.prog 41 #[.pointer none] w fun e w' => e = .returned (.tuple #[.agg #[.string ⟨#[]⟩, .string ⟨#[]⟩], .bool false]) ∧ Below w.heap.size w w' := by
  go_enter Try.func41, Try.ntmps41
  go_wp2
  refine ret_cell2 (s := 2) (s2 := 3) (ad := ⟨w.heap.size, 0, none⟩) rfl rfl (load_bl _ _ (.string ⟨#[]⟩) (.string ⟨#[]⟩) (cell_two (heap_alloc_last w _)).1 (cell_two (heap_alloc_last w _)).2) rfl rfl ?_
  exact ⟨rfl, (Below.refl _ _).alloc (Nat.le_refl _) _⟩
set_option maxRecDepth 100000 in
set_option maxHeartbeats 6400000 in
theorem vchosen_any (g m : Nat) (am : Option Addr) (cm : Nat) (s : Ta) (w : World) (h : TlA w g m am cm s) :
    Calls Try.prog 41 #[.pointer (some ⟨g, 0, none⟩)] w fun e w' => e = .returned (.tuple #[.agg #[.string (chB s).1, .string (chB s).2], .bool (chF s)]) ∧ Below w.heap.size w w' := by
  have hml := h.ok.mlen
  have hgl := lt_of_blk h.blk
  obtain ⟨n, en⟩ : ∃ n, n = s.mem.length := ⟨_, rfl⟩
  obtain ⟨Z, eZ⟩ : ∃ Z, Z = quoT s := ⟨_, rfl⟩
  have HZ := hid (And.intro en eZ)
  have hq : Hid (∀ u : World, Calls Try.prog 28 #[.int .i64 (n : Int)] u fun e w' => e = .returned (.int .i64 Z) ∧ Below u.heap.size u w') := hid (fun u => by rw [eZ, quoT, ← en]; exact cquorum_any _ (by omega) u)
  have H0 : Hid (ChSt w (w.alloc (.cells #[.string ⟨#[]⟩, .string ⟨#[]⟩] 76)) s g m am cm) := hid ⟨heap_alloc_last w _, h.alloc _, (Below.refl _ _).alloc (Nat.le_refl _) _, h.lt⟩
  have c1 : w.cell? ⟨g, 1, none⟩ = some (.slice am n cm) := by rw [en]; exact h.c1
  have HT := hid h
  have hn10 : (n : Int) ≤ 10 := by omega
  clear h en eZ hml
  go_enter Try.func41, Try.ntmps41
  go_wp2_with (go_at_call 28; refine (hq.out _).mono ?_; rintro e w1 ⟨rfl, hb1⟩; have H1 := hid (H0.out.keep hb1); have c2 : w1.cell? ⟨g, 1, none⟩ = some (.slice am n cm) := (H1.out.tl.c1).trans (by rw [← HZ.out.1]); clear hb1)
  go_loopw [24] (fun i wr => ∃ j : Nat, j ≤ n ∧ i = .int .i64 (j : Int) ∧ ChSt w wr s g m am cm ∧ ∀ i, i < j → chooser s (s.mem.getD i 0) = false)
    (fun i _ => ((n : Int) - intOf i).toNat)
  case atStart => exact ⟨0, by omega, rfl, H1.out, fun i hi => absurd hi (by omega)⟩
  case round =>
    obtain ⟨j, hj, rfl, hst, hno⟩ := hrel
    clear c1 c2
    by_cases hjn : j = n
    · have hj1 : ¬ ((j : Int) < (n : Int)) := by omega
      have HS := hid hst
      have HF : Hid (chosenOf s = none) := hid (by rw [chosenOf, find_none (fun i hi => hno i (by have := HZ.out.1; omega))]; rfl)
      have f0 := free_at HS.out.res 0
      have f1 := free_at HS.out.res 1
      have z0 := (cell_two HS.out.res).1
      have z1 := (cell_two HS.out.res).2
      clear hst hno hj hjn
      go_wp2
      refine ret_cell2 (s := 2) (s2 := 3) (ad := ⟨w.heap.size, 0, none⟩) rfl rfl (load_bl _ _ (.string ⟨#[]⟩) (.string ⟨#[]⟩) (cell_two (cv_put HS.out.res)).1 (cell_two (cv_put HS.out.res)).2) rfl rfl ?_
      refine ⟨by rw [chB, chF, HF.out]; rfl, (HS.out.bel.setCell (Nat.le_refl _) _).setCell (Nat.le_refl _) _⟩
    · have hj1 : (j : Int) < (n : Int) := by omega
      have hj0 : (0 : Int) ≤ (j : Int) := Int.natCast_nonneg _
      have hjl : j < s.mem.length := by have := HZ.out.1; omega
      obtain ⟨ga, off, rfl, hga, hcell⟩ := hst.tl.im.at j _ (getD_some hjl)
      have hid16 := hst.tl.ok.ids (i := s.mem.getD j 0) (by rw [getD_get _ _ hjl]; exact List.getElem_mem hjl)
      obtain ⟨X, eX⟩ : ∃ X : Nat, s.mem.getD j 0 = (X : Int) := ⟨(s.mem.getD j 0).toNat, by omega⟩
      rw [eX] at hcell hid16
      have hX : X < 16 := by omega
      have hX1 : (X : Int) < 16 := by omega
      have hX0 : (0 : Int) ≤ (X : Int) := Int.natCast_nonneg _
      obtain ⟨x0, x1⟩ := hst.tl.cc X hX
      have hfit := castOf_fit hst.tl.ok (X : Int)
      have HB : Hid (chooser s (s.mem.getD j 0) = decide (Z ≤ (cntB s.vs (castOf s.vs (X : Int)) : Int))) := hid (by rw [chooser, eX, HZ.out.2])
      obtain ⟨b, eb⟩ : ∃ b, b = castOf s.vs (X : Int) := ⟨_, rfl⟩
      rw [← eb] at x0 x1 hfit HB
      have HX := hid (And.intro eX eb)
      obtain ⟨wz, ez⟩ : ∃ wz, wz = wr.alloc (.cells #[.string b.1, .string b.2] 76) := ⟨_, rfl⟩
      have hbz : Below wr.heap.size wr wz := by rw [ez]; exact (Below.refl _ _).alloc (Nat.le_refl _) _
      have HSz := hid (hst.keep hbz)
      have Hbl : Hid (wz.heap[wr.heap.size]? = some (.cells #[.string b.1, .string b.2] 76 (0, 0))) := hid (by rw [ez]; exact heap_alloc_last wr _)
      have HL : Hid (∀ ww : World, Below wz.heap.size wz ww → ww.cell? ⟨g, 34, none⟩ = some (.map (some m)) ∧ ww.cell? ⟨wr.heap.size, 0, none⟩ = some (.string b.1) ∧ ww.cell? ⟨wr.heap.size, 1, none⟩ = some (.string b.2) ∧ (Instr.lookup 74 (.map (some m)) (.agg #[.string b.1, .string b.2]) false).run Try.prog ww = .ok (.int .i64 (cntB s.vs b : Int)) ww) := hid (fun ww hw => by
        have ht := HSz.out.tl.keep hw
        have hq := cell_two ((hw.block _ (lt_of_blk Hbl.out)).trans Hbl.out)
        exact ⟨ht.c34, hq.1, hq.2, ht.mp.look b hfit⟩)
      have HE := hid ez
      have HJ := hid (And.intro hj (And.intro hjn hno))
      generalize hC : (cntB s.vs b : Int) = C at HL HB
      clear hC hst hfit hno hj hjn hjl hid16 hX hga eX ez eb hbz
      go_wp2
      rw [← HE.out]
      have HS0 : Hid (Below wz.heap.size wz wz.drew) := hid (Below.refl _ _).drew
      refine wp_region_G (S := fun ww => Below wz.heap.size wz ww) (ex := []) (by kernel_rfl) ?_
      try (change wpAnyG _ _ _ _ _ _ _ _ _ (World.drew _))
      refine wpAnyG_take (i := 0) (v := ?v1) rfl (by kernel_rfl) (fun _ _ _ h => h) (Or.inl ⟨by rfl, ?hy1⟩) HS0.out ?rest1
      case hy1 => (intro ww _; go_simp; try with_reducible rfl)
      go_simp
      refine wpAnyG_take (i := 1) (v := ?v2) rfl (by kernel_rfl) (fun _ _ _ h => h) (Or.inl ⟨by rfl, ?hy2⟩) HS0.out ?rest2
      case hy2 => (intro ww _; go_simp; try with_reducible rfl)
      go_simp
      refine wpAnyG_take (i := 2) (v := ?v3) rfl (by kernel_rfl) (fun _ _ _ h => h) (Or.inl ⟨by rfl, ?hy3⟩) HS0.out ?rest3
      case hy3 => (intro ww _; go_simp; try with_reducible rfl)
      go_simp
      refine wpAnyG_take (i := 3) (v := ?v4) rfl (by kernel_rfl) (fun _ _ _ h => h) (Or.inl ⟨by rfl, ?hy4⟩) HS0.out ?rest4
      case hy4 => (intro ww hS; obtain ⟨y0, y1, y2, y3⟩ := HL.out ww hS; go_simp; try with_reducible rfl)
      go_simp
      refine wpAnyG_take (i := 4) (v := ?v5) rfl (by kernel_rfl) (fun _ _ _ h => h) (Or.inl ⟨by rfl, ?hy5⟩) HS0.out ?rest5
      case hy5 => (intro ww hS; obtain ⟨y0, y1, y2, y3⟩ := HL.out ww hS; go_simp; try with_reducible rfl)
      go_simp
      refine wpAnyG_take (i := 5) (v := ?v6) rfl (by kernel_rfl) (fun _ _ _ h => h) (Or.inl ⟨by rfl, ?hy6⟩) HS0.out ?rest6
      case hy6 => (intro ww hS; obtain ⟨y0, y1, y2, y3⟩ := HL.out ww hS; go_simp; try with_reducible rfl)
      go_simp
      refine wpAnyG_take (i := 6) (v := ?v7) rfl (by kernel_rfl) (fun _ _ _ h => h) (Or.inl ⟨by rfl, ?hy7⟩) HS0.out ?rest7
      case hy7 => (intro ww _; go_simp; try with_reducible rfl)
      go_simp
      refine wpAnyG_take (i := 7) (v := ?v8) rfl (by kernel_rfl) (fun _ _ _ h => h) (Or.inl ⟨by rfl, ?hy8⟩) HS0.out ?rest8
      case hy8 => (intro ww _; go_simp; try with_reducible rfl)
      go_simp
      refine wpAnyG_done (by kernel_rfl) ?_ _
      go_simp
      by_cases hZ : Z ≤ C
      · have HF : Hid (chosenOf s = some b) := hid (by
          rw [chosenOf, find_first (by have := HZ.out.1; have := HJ.out; omega) HJ.out.2.2 (by rw [HB.out, decide_eq_true hZ])]
          show some (castOf s.vs (s.mem.getD j 0)) = _
          rw [HX.out.1, ← HX.out.2])
        have f0 := free_at HSz.out.res 0
        have f1 := free_at HSz.out.res 1
        have z0 := (cell_two HSz.out.res).1
        have z1 := (cell_two HSz.out.res).2
        have z2 := (cell_two Hbl.out).1
        have z3 := (cell_two Hbl.out).2
        have HSd := hid HSz.out.drew
        go_wp2
        refine ret_cell2 (s := 2) (s2 := 3) (ad := ⟨w.heap.size, 0, none⟩) rfl rfl (load_bl _ _ (.string b.1) (.string b.2) (cell_two (cv_put HSd.out.res)).1 (cell_two (cv_put HSd.out.res)).2) rfl rfl ?_
        exact ⟨by rw [chB, chF, HF.out]; rfl, (HSd.out.bel.setCell (Nat.le_refl _) _).setCell (Nat.le_refl _) _⟩
      · go_wp2
        go_roundw
        case rel => exact ⟨j + 1, by have := HJ.out; omega, by go_num, HSz.out.drew, fun i hi => by
          by_cases e : i = j
          · rw [e, HB.out, decide_eq_false hZ]
          · exact HJ.out.2.2 i (by omega)⟩
        case measure => simp [intOf]; omega
end Go.Proofs.Ytclfphffbfdimaa

/- The program's tally: how many voted. -/
namespace Go.Proofs.Ytclfphffbfdimaa
open Go.RowKit Go.Maps

theorem kB_same {a b : Bl} (ha : fitB a) (hb : fitB b) : (kB a).sameKey (kB b) = decide (a = b) := by
  by_cases e : a = b
  · subst e
    rw [decide_eq_true rfl]
    simp [kB, Lit.sameKey]
  · rw [decide_eq_false e]
    have h := fun h => e (kB_inj ha hb h)
    simp only [kB, Lit.sameKey]
    simpa [kB] using h
def notL (left : Lit → Bool) (v : Vo) : Bool := !left (kB v.2)
theorem count_step {vs : List Vo} (hf : ∀ v ∈ vs, fitB v.2) {left : Lit → Bool} {b : Bl} (hb : fitB b) (hl : left (kB b) = true) :
    vs.countP (notL fun z => left z && !z.sameKey (kB b)) = vs.countP (notL left) + cntB vs b := by
  induction vs with
  | nil => rfl
  | cons v vs ih =>
    have h1 := ih (fun v hv => hf v (List.mem_cons_of_mem _ hv))
    have hv := hf v (List.mem_cons_self ..)
    have e1 : notL (fun z => left z && !z.sameKey (kB b)) v = (notL left v || decide (v.2 = b)) := by
      show (!(left (kB v.2) && !(kB v.2).sameKey (kB b))) = (!left (kB v.2) || decide (v.2 = b))
      rw [kB_same hv hb]
      cases left (kB v.2) <;> cases decide (v.2 = b) <;> rfl
    by_cases e : v.2 = b
    · have e2 : notL left v = false := by unfold notL; rw [e, hl]; rfl
      rw [List.countP_cons_of_pos (by rw [e1, decide_eq_true e, Bool.or_true]), List.countP_cons_of_neg (by rw [e2]; decide), h1, cntB, cntB, List.countP_cons_of_pos (by simpa using e)]
      omega
    · have e2 : notL (fun z => left z && !z.sameKey (kB b)) v = notL left v := by rw [e1, decide_eq_false e, Bool.or_false]
      have e3 : cntB (v :: vs) b = cntB vs b := by rw [cntB, cntB, List.countP_cons_of_neg (by simpa using e)]
      rw [e3]
      cases e4 : notL left v with
      | true =>
        rw [List.countP_cons_of_pos (by rw [e2, e4]), List.countP_cons_of_pos e4, h1]
        omega
      | false =>
        rw [List.countP_cons_of_neg (by rw [e2, e4]; decide), List.countP_cons_of_neg (by rw [e4]; decide), h1]
theorem count_start {vs : List Vo} {D : DataW Unit} (hf : ∀ v ∈ vs, fitB v.2) (hc : Cts D vs) : vs.countP (notL (Maps.has D)) = 0 := by
  rw [List.countP_eq_zero]
  intro v hv
  unfold notL
  rw [hc.has_ _ (hf v hv)]
  have : 0 < cntB vs v.2 := List.countP_pos_iff.2 ⟨v, hv, by simp⟩
  simp [this]
theorem count_end {vs : List Vo} {left : Lit → Bool} (h : ∀ k, left k = false) : vs.countP (notL left) = vs.length := by
  rw [List.countP_eq_length]
  intro v hv
  unfold notL
  rw [h]
  rfl
theorem bal_fit {s : Ta} (h : TOk s) : ∀ v ∈ s.vs, fitB v.2 := fun v hv => by
  have := castOf_fit h v.1
  rwa [castOf_mem h.nod v hv] at this
set_option maxRecDepth 100000 in
set_option maxHeartbeats 1600000 in
theorem vcount_nil (w : World) : Calls Try.prog 17 #[.pointer none] w fun e w' => e = .returned (.int .i64 0) ∧ Below w.heap.size w w' := by
  go_enter Try.func17, Try.ntmps17
  go_wp2
  go_ret
  exact ⟨rfl, Below.refl _ _⟩
set_option maxRecDepth 100000 in
set_option maxHeartbeats 3200000 in
theorem vcount_any (g m : Nat) (am : Option Addr) (cm : Nat) (s : Ta) (w : World) (h : TlA w g m am cm s) :
    Calls Try.prog 17 #[.pointer (some ⟨g, 0, none⟩)] w fun e w' => e = .returned (.int .i64 (s.vs.length : Int)) ∧ Below w.heap.size w w' := by
  have c1 := h.c34
  have hml := h.ok.mlen
  have hvl := h.ok.len
  have HF := hid (bal_fit h.ok)
  obtain ⟨D, hown, hc⟩ := h.mp
  have HC := hid hc
  obtain ⟨n, en⟩ : ∃ n, n = Maps.size D := ⟨_, rfl⟩
  rw [← en] at hown
  obtain ⟨L, eL⟩ : ∃ L, L = s.vs := ⟨_, rfl⟩
  rw [← eL] at HF HC hvl ⊢
  have HV : Hid (L.length ≤ 10) := hid (by omega)
  clear h hc en eL hml hvl
  go_enter Try.func17, Try.ntmps17
  go_wp2_with (at_range; refine wpList_range_own _ rfl _ 74 rfl 76 3 bl_keyed mapV_type _ m n _ rfl hown ?_; intro w0 hrg0 hg0 hs0)
  go_frame
  go_loopw [3] (fun v wr => ∃ (left : Lit → Bool) (cnt : Nat), wr.ranges Try.prog 76 (plainElem Try.prog 3) m w.heap.size n D left cnt ∧ v = .int .i64 (L.countP (notL left) : Int) ∧ Below w.heap.size w wr)
    (fun _ wr => wr.rangeLeft m w.heap.size)
  case atStart => exact ⟨_, _, hrg0, by rw [count_start HF.out HC.out]; rfl, (Below.refl _ _).grown hg0 (Nat.le_refl _) (fun j hj => by cases hj)⟩
  case round =>
    obtain ⟨left, cnt, hrg, rfl, hnx⟩ := hrel
    go_wp2_with (at_next; refine wpList_next_ranges _ rfl _ rfl 76 bl_keyed (plainElem Try.prog 3) (fun p : Bl => Value.agg #[.string p.1, .string p.2]) (fun c : Int => Value.int .i64 c) (fun key kl hk => by obtain ⟨p, hp, _⟩ := bl_inv key kl hk; exact ⟨p, hp⟩) (fun v y hv => by obtain ⟨c, rfl, _⟩ := plainElem_int_inv Try.underlying3 hv; exact ⟨c, rfl⟩) m w.heap.size n _ _ _ rfl hrg ?_ ?_)
    · intro hc0 hl0
      rw [count_end hl0]
      clear hrg hl0 hc0 hrg0 hg0 hs0
      have HB := hid hnx
      clear hnx
      go_wp2
      go_ret
      exact ⟨rfl, HB.out⟩
    · intro p1 p2 c kl yd yp w2 cnt2 hkey hlk hv hat hrg2 hlt hg2 hs2 hen
      have hkk : ∃ p : Bl, fitB p ∧ kl = kB p ∧ p1 = p.1 ∧ p2 = p.2 := by
        obtain ⟨q, e1, e2, e3⟩ := bl_inv _ kl hkey
        simp at e1
        exact ⟨q, e2, e3, e1.1, e1.2⟩
      obtain ⟨p, hq, rfl, rfl, rfl⟩ := hkk
      have hcc : c = (cntB L p : Int) := by
        have h1 := HC.out.at_ p hq
        obtain ⟨c', e1, e2, _⟩ := plainElem_int_inv Try.underlying3 hv
        cases e1
        cases e2
        rw [hat] at h1
        simpa [nD] using h1
      subst hcc
      have hst := count_step HF.out hq hlk
      have hle1 : L.countP (notL left) ≤ L.length := List.countP_le_length
      have hle2 := cntB_le L p
      have hw : IntKind.i64.wrap ((L.countP (notL left) : Int) + (cntB L p : Int)) = (L.countP (notL left) : Int) + (cntB L p : Int) := wrap_small _ (by omega) (by have := HV.out; omega)
      have HST := hid hst
      have HN := hid (hnx.grown hg2 hnx.size (fun j hj => by cases hj; exact Nat.le_refl _))
      have HL := hid (And.intro hrg2 (And.intro hrg hlt))
      clear hst hnx hg2 hs2 hrg hrg2 hlt hle1 hle2 hv hat hkey
      go_wp2
      go_roundw
      case rel => exact ⟨_, cnt2, HL.out.1, by rw [HST.out]; simp, HN.out⟩
      case measure => rw [HL.out.1.left_eq, HL.out.2.1.left_eq]; exact HL.out.2.2
end Go.Proofs.Ytclfphffbfdimaa
