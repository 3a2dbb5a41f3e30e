/- Texts laid together: SlC HlA SlH SlI SlF ApA SlJ SlD. -/
import Derived.Test.YtohhlolmojeomaaKh1
import Derived.Test.YtohhlolmojeomaaKd1
import Derived.Test.YtohhlolmojeomaaKa1
import Derived.OrdersHeld
import Derived.Test.YtohhlolmojeomaaKf1
import Derived.Deep.MidRow
import Derived.Test.YtohhlolmojeomaaKc1
import Derived.Deep.DeepMust
import Derived.Maps.AppendAt
import Derived.Test.YtohhlolmojeomaaKg1
/- A slot's place and a request's text. -/
namespace Go.Proofs.Ytohhlolmojeomaa
open Go.RowKit

theorem ret_tmp3 {f : Func} {a : Act} {w : World} {Q : Ending → World → Prop} {s s2 s3 : Nat} {v v2 v3 : Value} (hr : f.results = #[.tmp s, .tmp s2, .tmp s3]) (h1 : a.tmps.getD s undef = v) (h2 : a.tmps.getD s2 undef = v2) (h3 : a.tmps.getD s3 undef = v3) (hd : a.defers = []) (h : Q (.returned (.tuple #[v, v2, v3])) w) : bodyPost Try.prog f Q .ret a w := by
  refine bodyPost_ret (v := .tuple #[v, v2, v3]) ?_ hd h
  simp [results, hr, -Array.getD_eq_getD_getElem?, h1, h2, h3]
set_option maxRecDepth 100000 in
set_option maxHeartbeats 1600000 in
theorem sfind_nil (s : Int) (r : Rq) (hb : r.b < 18446744073709551616) (w : World) : Calls Try.prog 47 #[.pointer none, .int .i64 s, .agg #[.int .i64 r.c, .int .i64 r.st, .int .i64 r.k, .string r.key, .float .f64 r.b, .int .i64 r.id]] w fun e w' => e = .returned (.tuple #[.pointer none, .string ⟨#[]⟩, .int .i64 1]) ∧ Below w.heap.size w w' := by
  have HN : Hid (∀ u : World, Below w.heap.size w u → Calls Try.prog 33 #[.pointer none] u fun e w' => e = .returned (.bool true) ∧ w' = u) := hid (fun u _ => snone_nil u)
  have H0 : Hid (RqAt (w.alloc (.cells #[.int .i64 r.c, .int .i64 r.st, .int .i64 r.k, .string r.key, .float .f64 r.b, .int .i64 r.id] 43)) w.heap.size r ∧ Below w.heap.size w (w.alloc (.cells #[.int .i64 r.c, .int .i64 r.st, .int .i64 r.k, .string r.key, .float .f64 r.b, .int .i64 r.id] 43))) := hid ⟨heap_alloc_last w _, (Below.refl _ _).alloc (Nat.le_refl _) _⟩
  have HT : Hid (∀ u : World, Calls Try.prog 65 #[.agg #[.int .i64 r.c, .int .i64 r.st, .int .i64 r.k, .string r.key, .float .f64 r.b, .int .i64 r.id]] u fun e w' => e = .returned (.tuple #[.string (rqT r), .int .i64 (rqE r)]) ∧ Below u.heap.size u w') := hid (fun u => dtext_any r hb u)
  obtain ⟨⟨q0, q1⟩, q2, q3, q4, q5⟩ := H0.out.1.cells
  clear hb
  go_enter Try.func47, Try.ntmps47
  go_wp2_with (first | (go_at_call 65; go_must (refine (HT.out _).mono ?_); rintro e w1 ⟨rfl, hb1⟩; have H1 := hid (H0.out.2.trans (hb1.mono H0.out.2.size)); clear hb1 q0 q1 q2 q3 q4 q5) | (go_at_call 33; go_must (refine (HN.out _ H1.out).mono ?_); rintro e w2 ⟨rfl, hw2⟩; replace hw2 := hw2.symm; subst hw2))
  refine ret_tmp3 (s := 6) (s2 := 7) (s3 := 8) rfl rfl rfl rfl rfl ?_
  exact ⟨rfl, H1.out⟩
set_option maxRecDepth 100000 in
set_option maxHeartbeats 1600000 in
theorem sfind_arg (g : Nat) (ep : Int) (am : Option Addr) (cm : Nat) (l : List Int) (v : Int) (ps : List Pl) (s : Int) (r : Rq) (hb : r.b < 18446744073709551616) (hr : rqE r ≠ 0) (w : World) (h : SlA w g ep am cm l v ps) (hl : 0 < l.length) : Calls Try.prog 47 #[.pointer (some ⟨g, 0, none⟩), .int .i64 s, .agg #[.int .i64 r.c, .int .i64 r.st, .int .i64 r.k, .string r.key, .float .f64 r.b, .int .i64 r.id]] w fun e w' => e = .returned (.tuple #[.pointer none, .string ⟨#[]⟩, .int .i64 1]) ∧ Below w.heap.size w w' := by
  have HN : Hid (∀ u : World, Below w.heap.size w u → Calls Try.prog 33 #[.pointer (some ⟨g, 0, none⟩)] u fun e w' => e = .returned (.bool false) ∧ w' = u) := hid (fun u hu => snone_any g ep am cm l v ps u (h.keep hu) hl)
  have H0 : Hid (RqAt (w.alloc (.cells #[.int .i64 r.c, .int .i64 r.st, .int .i64 r.k, .string r.key, .float .f64 r.b, .int .i64 r.id] 43)) w.heap.size r ∧ Below w.heap.size w (w.alloc (.cells #[.int .i64 r.c, .int .i64 r.st, .int .i64 r.k, .string r.key, .float .f64 r.b, .int .i64 r.id] 43))) := hid ⟨heap_alloc_last w _, (Below.refl _ _).alloc (Nat.le_refl _) _⟩
  have HT : Hid (∀ u : World, Calls Try.prog 65 #[.agg #[.int .i64 r.c, .int .i64 r.st, .int .i64 r.k, .string r.key, .float .f64 r.b, .int .i64 r.id]] u fun e w' => e = .returned (.tuple #[.string (rqT r), .int .i64 (rqE r)]) ∧ Below u.heap.size u w') := hid (fun u => dtext_any r hb u)
  obtain ⟨⟨q0, q1⟩, q2, q3, q4, q5⟩ := H0.out.1.cells
  have hbn : (rqE r != 0) = true := bne_iff_ne.2 hr
  generalize rqE r = E at HT hbn hr
  clear hb hr h
  go_enter Try.func47, Try.ntmps47
  go_wp2_with (first | (go_at_call 65; go_must (refine (HT.out _).mono ?_); rintro e w1 ⟨rfl, hb1⟩; have H1 := hid (H0.out.2.trans (hb1.mono H0.out.2.size)); clear hb1 q0 q1 q2 q3 q4 q5) | (go_at_call 33; go_must (refine (HN.out _ H1.out).mono ?_); rintro e w2 ⟨rfl, hw2⟩; replace hw2 := hw2.symm; subst hw2))
  refine ret_tmp3 (s := 6) (s2 := 7) (s3 := 8) rfl rfl rfl rfl rfl ?_
  exact ⟨rfl, H1.out⟩
set_option maxRecDepth 100000 in
set_option maxHeartbeats 1600000 in
theorem sfind_slot (g : Nat) (ep : Int) (am : Option Addr) (cm : Nat) (l : List Int) (v : Int) (ps : List Pl) (s : Int) (r : Rq) (hb : r.b < 18446744073709551616) (hr : rqE r = 0) (w : World) (h : SlA w g ep am cm l v ps) (hl : 0 < l.length) (he : 0 ≤ ep ∧ ep ≤ 60) (hs : s ≤ 4 * ep ∨ 4 * ep + 4 < s) : Calls Try.prog 47 #[.pointer (some ⟨g, 0, none⟩), .int .i64 s, .agg #[.int .i64 r.c, .int .i64 r.st, .int .i64 r.k, .string r.key, .float .f64 r.b, .int .i64 r.id]] w fun e w' => e = .returned (.tuple #[.pointer none, .string ⟨#[]⟩, .int .i64 14]) ∧ Below w.heap.size w w' := by
  have HN : Hid (∀ u : World, Below w.heap.size w u → Calls Try.prog 33 #[.pointer (some ⟨g, 0, none⟩)] u fun e w' => e = .returned (.bool false) ∧ w' = u) := hid (fun u hu => snone_any g ep am cm l v ps u (h.keep hu) hl)
  have HA : Hid (∀ u : World, Below w.heap.size w u → Calls Try.prog 42 #[.pointer (some ⟨g, 0, none⟩), .int .i64 s] u fun e w' => e = .returned (.pointer none) ∧ w' = u) := hid (fun u hu => sat_no g ep am cm l v ps s u (h.keep hu) hl he hs)
  have H0 : Hid (RqAt (w.alloc (.cells #[.int .i64 r.c, .int .i64 r.st, .int .i64 r.k, .string r.key, .float .f64 r.b, .int .i64 r.id] 43)) w.heap.size r ∧ Below w.heap.size w (w.alloc (.cells #[.int .i64 r.c, .int .i64 r.st, .int .i64 r.k, .string r.key, .float .f64 r.b, .int .i64 r.id] 43))) := hid ⟨heap_alloc_last w _, (Below.refl _ _).alloc (Nat.le_refl _) _⟩
  have HT : Hid (∀ u : World, Calls Try.prog 65 #[.agg #[.int .i64 r.c, .int .i64 r.st, .int .i64 r.k, .string r.key, .float .f64 r.b, .int .i64 r.id]] u fun e w' => e = .returned (.tuple #[.string (rqT r), .int .i64 (rqE r)]) ∧ Below u.heap.size u w') := hid (fun u => dtext_any r hb u)
  obtain ⟨⟨q0, q1⟩, q2, q3, q4, q5⟩ := H0.out.1.cells
  rw [hr] at HT
  clear hb hr h hs he
  go_enter Try.func47, Try.ntmps47
  go_wp2_with (first | (go_at_call 65; go_must (refine (HT.out _).mono ?_); rintro e w1 ⟨rfl, hb1⟩; have H1 := hid (H0.out.2.trans (hb1.mono H0.out.2.size)); clear hb1 q0 q1 q2 q3 q4 q5) | (go_at_call 33; go_must (refine (HN.out _ H1.out).mono ?_); rintro e w2 ⟨rfl, hw2⟩; replace hw2 := hw2.symm; subst hw2) | (go_at_call 42; go_must (refine (HA.out _ H1.out).mono ?_); rintro e w2 ⟨rfl, hw2⟩; replace hw2 := hw2.symm; subst hw2))
  refine ret_tmp3 (s := 6) (s2 := 7) (s3 := 8) rfl rfl rfl rfl rfl ?_
  exact ⟨rfl, H1.out⟩
set_option maxRecDepth 100000 in
set_option maxHeartbeats 1600000 in
theorem sfind_yes (g : Nat) (ep : Int) (am : Option Addr) (cm : Nat) (l : List Int) (v : Int) (ps : List Pl) (i : Nat) (r : Rq) (hb : r.b < 18446744073709551616) (hr : rqE r = 0) (w : World) (h : SlA w g ep am cm l v ps) (hl : 0 < l.length) (he : 0 ≤ ep ∧ ep ≤ 60) (hi : i < 4) : Calls Try.prog 47 #[.pointer (some ⟨g, 0, none⟩), .int .i64 (4 * ep + 1 + (i : Int)), .agg #[.int .i64 r.c, .int .i64 r.st, .int .i64 r.k, .string r.key, .float .f64 r.b, .int .i64 r.id]] w fun e w' => e = .returned (.tuple #[.pointer (some ⟨g, 3 + i * 43, none⟩), .string (rqT r), .int .i64 0]) ∧ Below w.heap.size w w' := by
  have HN : Hid (∀ u : World, Below w.heap.size w u → Calls Try.prog 33 #[.pointer (some ⟨g, 0, none⟩)] u fun e w' => e = .returned (.bool false) ∧ w' = u) := hid (fun u hu => snone_any g ep am cm l v ps u (h.keep hu) hl)
  have HA : Hid (∀ u : World, Below w.heap.size w u → Calls Try.prog 42 #[.pointer (some ⟨g, 0, none⟩), .int .i64 (4 * ep + 1 + (i : Int))] u fun e w' => e = .returned (.pointer (some ⟨g, 3 + i * 43, none⟩)) ∧ w' = u) := hid (fun u hu => sat_yes g ep am cm l v ps i u (h.keep hu) hl he hi)
  have H0 : Hid (RqAt (w.alloc (.cells #[.int .i64 r.c, .int .i64 r.st, .int .i64 r.k, .string r.key, .float .f64 r.b, .int .i64 r.id] 43)) w.heap.size r ∧ Below w.heap.size w (w.alloc (.cells #[.int .i64 r.c, .int .i64 r.st, .int .i64 r.k, .string r.key, .float .f64 r.b, .int .i64 r.id] 43))) := hid ⟨heap_alloc_last w _, (Below.refl _ _).alloc (Nat.le_refl _) _⟩
  have HT : Hid (∀ u : World, Calls Try.prog 65 #[.agg #[.int .i64 r.c, .int .i64 r.st, .int .i64 r.k, .string r.key, .float .f64 r.b, .int .i64 r.id]] u fun e w' => e = .returned (.tuple #[.string (rqT r), .int .i64 (rqE r)]) ∧ Below u.heap.size u w') := hid (fun u => dtext_any r hb u)
  obtain ⟨⟨q0, q1⟩, q2, q3, q4, q5⟩ := H0.out.1.cells
  rw [hr] at HT
  clear hb hr h he
  generalize 4 * ep + 1 + (i : Int) = s at HA ⊢
  go_enter Try.func47, Try.ntmps47
  go_wp2_with (first | (go_at_call 65; go_must (refine (HT.out _).mono ?_); rintro e w1 ⟨rfl, hb1⟩; have H1 := hid (H0.out.2.trans (hb1.mono H0.out.2.size)); clear hb1 q0 q1 q2 q3 q4 q5) | (go_at_call 33; go_must (refine (HN.out _ H1.out).mono ?_); rintro e w2 ⟨rfl, hw2⟩; replace hw2 := hw2.symm; subst hw2) | (go_at_call 42; go_must (refine (HA.out _ H1.out).mono ?_); rintro e w2 ⟨rfl, hw2⟩; replace hw2 := hw2.symm; subst hw2))
  refine ret_tmp3 (s := 6) (s2 := 7) (s3 := 8) rfl rfl rfl rfl rfl ?_
  exact ⟨rfl, H1.out⟩
end Go.Proofs.Ytohhlolmojeomaa

/- Regions that draw, reads taken first, where what stands at their end writes what was read: behind the operations named (they wait for all that is taken) the condition need not hold. -/
namespace Go.Proofs.Ytohhlolmojeomaa
open Go.RowKit

section
variable {P : Program} {ops : Array Oper} {Q : Exit → Act → World → Prop} {md : Region.Mode} {S : World → Prop} {ex : List Nat}
/-- k waits for i. -/
def reachB (md : Region.Mode) (ops : Array Oper) : Nat → Nat → Nat → Bool
  | 0, _, _ => false
  | n + 1, k, i => match ops[k]? with
    | none => false
    | some o => o.after.any fun e => Region.binds md e && (e.on == i || reachB md ops n e.on i)
def Closed (md : Region.Mode) (ops : Array Oper) (listed : Array Bool) : Prop := ∀ (j : Nat) (o : Oper), ops[j]? = some o → listed.getD j false = true → ∀ e ∈ o.after, Region.binds md e = true → listed.getD e.on false = true
def closedB (md : Region.Mode) (ops : Array Oper) (listed : Array Bool) : Bool := (List.range ops.size).all fun j => !(listed.getD j false) || match ops[j]? with
  | none => true
  | some o => o.after.all fun e => !(Region.binds md e) || listed.getD e.on false
theorem closed_of {listed : Array Bool} (h : closedB md ops listed = true) : Closed md ops listed := fun j o ho hl e he hb => by
  have hj : j < ops.size := (Array.getElem?_eq_some_iff.1 ho).1
  have h1 := List.all_eq_true.1 h j (List.mem_range.2 hj)
  simp only [hl, ho, Bool.not_true, Bool.false_or] at h1
  have h2 := Array.all_eq_true_iff_forall_mem.1 h1 e he
  simpa [hb] using h2
theorem reach_listed {listed : Array Bool} (hc : Closed md ops listed) {i : Nat} : ∀ (n k : Nat), reachB md ops n k i = true → (∀ o, ops[k]? = some o → ∀ e ∈ o.after, Region.binds md e = true → listed.getD e.on false = true) → listed.getD i false = true
  | 0, _, h, _ => by simp [reachB] at h
  | n + 1, k, h, hk => by
    rw [reachB] at h
    cases ho : ops[k]? with
    | none => rw [ho] at h; cases h
    | some o =>
      rw [ho] at h
      obtain ⟨q, hq, h1⟩ := Array.any_eq_true.1 h
      have he := Array.getElem_mem hq
      generalize o.after[q] = e at he h1
      rw [Bool.and_eq_true, Bool.or_eq_true] at h1
      have hl := hk o ho e he h1.1
      rcases h1.2 with h2 | h2
      · rw [beq_iff_eq] at h2
        rw [← h2]
        exact hl
      · exact reach_listed hc n e.on h2 (fun o' ho' e' he' hb' => hc e.on o' ho' hl e' he' hb')
theorem closed_step {listed : Array Bool} (hc : Closed md ops listed) {j : Nat} (hj : j ∈ Region.ready md ops listed) : Closed md ops (listed.setIfInBounds j true) := fun k o ho hl e he hb => by
  by_cases hkj : j = k
  · subst hkj
    obtain ⟨_, o', ho', hall⟩ := mem_ready.1 hj
    rw [ho] at ho'
    cases ho'
    exact getD_set_true (hall e he hb)
  · rw [getD_set_ne false hkj] at hl
    exact getD_set_true (hc k o ho hl e he hb)
def wpAnyG (P : Program) (md : Region.Mode) (ops : Array Oper) (Q : Exit → Act → World → Prop) (S : World → Prop) (ex : List Nat) : Nat → Array Bool → Act → World → Prop
  | 0, listed, a, w => Region.ready md ops listed = [] ∧ Q .normal a w
  | fuel + 1, listed, a, w =>
    (Region.ready md ops listed = [] → Q .normal a w) ∧
    ∀ i ∈ Region.ready md ops listed, wpOp P ops Q i (fun a' w' => (i ∉ ex → S w') ∧ wpAnyG P md ops Q S ex fuel (listed.setIfInBounds i true) a' w') a w
theorem wpAny_of_G : ∀ (fuel : Nat) (listed : Array Bool) (a : Act) (w : World), wpAnyG P md ops Q S ex fuel listed a w → wpAny P md ops Q fuel listed a w
  | 0, _, _, _, h => h
  | fuel + 1, _, _, _, h => ⟨h.1, fun i hi => wpOp_mono (fun a' w' h' => wpAny_of_G fuel _ a' w' h'.2) (h.2 i hi)⟩
theorem wpAnyG_first {i : Nat} {oi : Oper} {v : Value} (hi : ops[i]? = some oi) (hsel : ∀ (j : Nat) (o : Oper) cs b, ops[j]? = some o → o.op ≠ .select cs b)
    (hQ : ∀ c a w, Q (.panic c) (a.put oi.dst v) w → Q (.panic c) a w) (N : Nat) (hex : ∀ k, k ∈ ex → reachB md ops N k i = true) :
    ∀ (fuel : Nat) (listed : Array Bool) (a : Act) (w : World), Closed md ops listed →
      (∀ j oj, ops[j]? = some oj → j ≠ i → listed.getD j true = false → (∀ e ∈ oj.after, Region.binds md e = true → e.on ≠ i) → oi.apart ops oj = true) →
      i ∈ Region.ready md ops listed → YieldsIf P ops S oi v a → S w →
      wpAnyG P md ops Q S ex fuel (listed.setIfInBounds i true) (a.put oi.dst v) w → wpAnyG P md ops Q S ex (fuel + 1) listed a w := by
  intro fuel
  induction fuel with
  | zero =>
    intro listed a w _ _ hr hy hS H
    refine ⟨fun h => (by rw [h] at hr; cases hr), fun j hj => ?_⟩
    by_cases hji : j = i
    · subst hji; exact hy.wpOp hi hS ⟨fun _ => hS, H⟩
    · have := ready_mono hj hji
      rw [H.1] at this
      cases this
  | succ fuel ih =>
    intro listed a w hcl hfree hr hy hS H
    refine ⟨fun h => (by rw [h] at hr; cases hr), fun j hj => ?_⟩
    by_cases hji : j = i
    · subst hji; exact hy.wpOp hi hS ⟨fun _ => hS, H⟩
    · have h1 := H.2 j (ready_mono hj hji)
      obtain ⟨hjun, oj, hoj, hall⟩ := mem_ready.1 hj
      have hun := (mem_ready.1 hr).1
      have hnex : j ∉ ex := fun hje => by
        have hl := reach_listed hcl N j (hex j hje) (fun o ho e he hb => by rw [hoj] at ho; cases ho; exact hall e he hb)
        rcases Nat.lt_or_ge i listed.size with h' | h'
        · simp [h'] at hun hl; rw [hun] at hl; cases hl
        · simp [Array.getElem?_eq_none h'] at hl
      have hnot : ∀ e ∈ oj.after, Region.binds md e = true → e.on ≠ i := fun e he hb heq => by
        have h1 := hall e he hb
        rw [heq] at h1
        rcases Nat.lt_or_ge i listed.size with h' | h'
        · simp [h'] at hun h1; rw [hun] at h1; cases h1
        · simp [Array.getElem?_eq_none h'] at h1
      have h2 := wpOp_putIf hoj (hfree j oj hoj hji hjun hnot) (fun cs b => hsel i oi cs b hi) (fun cs b => hsel j oj cs b hoj) hQ hy h1
      have hfree' : ∀ k ok, ops[k]? = some ok → k ≠ i → (listed.setIfInBounds j true).getD k true = false →
          (∀ e ∈ ok.after, Region.binds md e = true → e.on ≠ i) → oi.apart ops ok = true := fun k ok hk hki hun hno => by
        refine hfree k ok hk hki ?_ hno
        by_cases hjk : j = k
        · subst hjk; exact hjun
        · rw [getD_set_ne true hjk] at hun; exact hun
      refine wpOp_mono (fun a' w' h3 => ⟨h3.2.1, ih (listed.setIfInBounds j true) a' w' (closed_step hcl hj) hfree' (ready_mono hr (Ne.symm hji)) h3.1 (h3.2.1 hnex) ?_⟩) h2
      rw [Array.setIfInBounds_comm _ _ hji]
      exact h3.2.2
theorem wpAnyG_take {i : Nat} {oi : Oper} {v : Value} {fuel : Nat} {listed : Array Bool} {a : Act} {w : World} (hi : ops[i]? = some oi)
    (hb : (Region.noSelect ops && (Region.free md ops listed i && ((Region.ready md ops listed).contains i && (closedB md ops listed && ex.all fun k => reachB md ops ops.size k i)))) = true)
    (hQ : ∀ c a w, Q (.panic c) (a.put oi.dst v) w → Q (.panic c) a w) (hy : YieldsIf P ops S oi v a) (hS : S w)
    (h : wpAnyG P md ops Q S ex fuel (listed.setIfInBounds i true) (a.put oi.dst v) w) : wpAnyG P md ops Q S ex (fuel + 1) listed a w := by
  simp only [Bool.and_eq_true] at hb
  obtain ⟨hs, hf, hr, hc, he⟩ := hb
  exact wpAnyG_first hi (Region.noSelect_spec hs) hQ ops.size (fun k hk => List.all_eq_true.1 he k hk) fuel listed a w (closed_of hc) (Region.free_spec hi hf) (by simpa using hr) hy hS h
theorem wpAnyG_all {rs : List Nat} {fuel : Nat} {listed : Array Bool} {a : Act} {w : World} (hr : Region.ready md ops listed = rs) (hne : rs ≠ [])
    (h : ∀ i ∈ rs, wpOp P ops Q i (fun a' w' => (i ∉ ex → S w') ∧ wpAnyG P md ops Q S ex fuel (listed.setIfInBounds i true) a' w') a w) : wpAnyG P md ops Q S ex (fuel + 1) listed a w :=
  ⟨fun h0 => absurd (hr ▸ h0) hne, hr ▸ h⟩
theorem wpAnyG_done {listed : Array Bool} {a : Act} {w : World} (hr : Region.ready md ops listed = []) (h : Q .normal a w) :
    ∀ fuel, wpAnyG P md ops Q S ex fuel listed a w
  | 0 => ⟨hr, h⟩
  | _ + 1 => ⟨fun _ => h, by rw [hr]; simp⟩
theorem wp_region_G {id : Nat} {a : Act} {w : World} (hm : P.follows .mixedOrders = true)
    (h : wpAnyG P .any ops Q S ex ops.size (Array.replicate ops.size false) a { w with drawn := w.drawn + 1 }) : (Code.region id ops true).wp P Q a w :=
  wp_region_any hm (wpAny_of_G _ _ _ _ h)
end
end Go.Proofs.Ytohhlolmojeomaa

/- The log's quorums and signatures. -/
namespace Go.Proofs.Ytohhlolmojeomaa
open Go.RowKit

section
variable {o : Oper} {a : Act} {w : World} {K : Act → World → Prop} {Q : Exit → Act → World → Prop} {ops : Array Oper} {rest : List Oper}
theorem wpOp_s {i : Nat} (hi : ops[i]? = some o) (hw : Region.wanted o (yielded ops a.tmps) = true) (h : ∀ K' : Act → World → Prop, (∀ a w, K a w → K' a w) → o.wp Try.prog a w K' Q) : wpOp Try.prog ops Q i K a w := by
  unfold Go.wpOp
  simp only [hi, hw, if_true]
  exact .inl (h _ (fun _ _ h => h))
theorem ret_oneS {f : Func} {a : Act} {w : World} {Q : Ending → World → Prop} {s : Nat} {t : TypeId} {ad : Addr} {v : Value} (hr : f.results = #[.cell s t]) (hs : a.tmps.getD s undef = .pointer (some ad)) (hl : (loadVar t ad).run Try.prog w = .ok v w) (hd : a.defers = [])
    (h : Q (.returned v) w) : bodyPost Try.prog f Q .ret a w := by
  refine bodyPost_ret (v := v) ?_ hd h
  have h1 : a.tmps.getD s undef = .pointer (some ad) := hs
  simp [results, hr, -Array.getD_eq_getD_getElem?, h1, asAddr, hl]
theorem wl_load_at (hgd : o.guard = none) (T : TypeId) (p : Operand) (ho : o.op = .load T p) (b off : Nat) (hp : a.eval p = .pointer (some ⟨b, off, none⟩)) (L : List Value) (hL : w.rangeAt b off L) (d : TypeDesc) (hu : Try.prog.underlying T = some d) (hd : d.isRow = true) (hi : (Try.prog.info? T).map (·.size) = some L.length)
    (h : wpList Try.prog ops Q rest (a.put o.dst (.agg L.toArray)) w) : wpList Try.prog ops Q (o :: rest) a w := by
  refine wpList_plain hgd fun K hK => ?_
  exact wp_load_mid T p ho b off hp L d hL hu hd hi (hK _ _ h)
end
section
variable {w : World} {g : Nat} {ep : Int} {am : Option Addr} {cm : Nat} {l : List Int} {v : Int} {ps : List Pl}
theorem SlA.pre16 (h : SlA w g ep am cm l v ps) {i : Nat} {p : Pl} (hi : ps[i]? = some p) : w.rangeAt g (3 + i * 43 + 1) (sC p.pre) := fun q u hq => by
  obtain ⟨hl, _⟩ := List.getElem?_eq_some_iff.1 hq
  rw [sC_len] at hl
  have hp := (h.ok p (List.mem_of_getElem? hi)).pre
  rw [sC, List.getElem?_map] at hq
  cases hx : p.pre[q]? with
  | none => rw [hx] at hq; cases hq
  | some x =>
    rw [hx] at hq
    cases hq
    have := h.at i p (1 + q) _ hi (by omega) (plC_pre q x hx)
    rw [show 3 + i * 43 + 1 + q = 3 + i * 43 + (1 + q) by omega]
    exact this
theorem SlA.com16 (h : SlA w g ep am cm l v ps) {i : Nat} {p : Pl} (hi : ps[i]? = some p) : w.rangeAt g (3 + i * 43 + 17) (sC p.com) := fun q u hq => by
  obtain ⟨hl, _⟩ := List.getElem?_eq_some_iff.1 hq
  rw [sC_len] at hl
  have hok := h.ok p (List.mem_of_getElem? hi)
  have hp := hok.com
  rw [sC, List.getElem?_map] at hq
  cases hx : p.com[q]? with
  | none => rw [hx] at hq; cases hq
  | some x =>
    rw [hx] at hq
    cases hq
    have := h.at i p (17 + q) _ hi (by omega) (plC_com hok q x hx)
    rw [show 3 + i * 43 + 17 + q = 3 + i * 43 + (17 + q) by omega]
    exact this
def nowC (p : Pl) : List Value := .string p.pro :: (sC p.pre ++ sC p.com)
theorem nowC_len {p : Pl} (h : PlOk p) : (nowC p).length = 33 := by simp [nowC, sC_len, h.pre, h.com]
theorem SlA.now33 (h : SlA w g ep am cm l v ps) {i : Nat} {p : Pl} (hi : ps[i]? = some p) : w.rangeAt g (3 + i * 43) (nowC p) := fun q u hq => by
  obtain ⟨hl, _⟩ := List.getElem?_eq_some_iff.1 hq
  rw [nowC_len (h.ok p (List.mem_of_getElem? hi))] at hl
  refine h.at i p q u hi (by omega) ?_
  have e1 : plC p = nowC p ++ (ctC p.ct.1 p.ct.2 ++ [.string p.don]) := by simp [plC, nowC]
  rw [e1, List.getElem?_append_left (by rw [nowC_len (h.ok p (List.mem_of_getElem? hi))]; omega)]
  exact hq
end
set_option maxRecDepth 100000 in
set_option maxHeartbeats 1600000 in
theorem squo_any (g : Nat) (ep : Int) (am : Option Addr) (cm : Nat) (l : List Int) (v : Int) (ps : List Pl) (L : List ByteArray) (hL : L.length = 16) (t : ByteArray) (w : World) (h : SlA w g ep am cm l v ps) (hlm : l.length ≤ 1000) : Calls Try.prog 52 #[.pointer (some ⟨g, 0, none⟩), .agg (sC L).toArray, .string t] w fun e w' => e = .returned (.bool (quoOk l.length L t)) ∧ Below w.heap.size w w' := by
  have hbA : Below w.heap.size w (w.alloc (.cells (sC L).toArray 74)) := (Below.refl _ _).alloc (Nat.le_refl _) _
  have HA : Hid ((SlA (w.alloc (.cells (sC L).toArray 74)) g ep am cm l v ps ∧ BxAt (w.alloc (.cells (sC L).toArray 74)) w.heap.size (sC L) 74) ∧ Below w.heap.size w (w.alloc (.cells (sC L).toArray 74))) := hid ⟨⟨h.keep hbA, heap_alloc_last w _⟩, hbA⟩
  have HLs : Hid ((sC L).length = 16 ∧ L.length = 16) := hid ⟨by rw [sC_len]; exact hL, hL⟩
  have HC : Hid (∀ u : World, Calls Try.prog 61 #[.agg (sC L).toArray, .string t] u fun e w' => e = .returned (.int .i64 (cntS L t : Int)) ∧ Below u.heap.size u w') := hid (fun u => scount_any L hL t u)
  have HQ : Hid (∀ u : World, Calls Try.prog 39 #[.int .i64 (l.length : Int)] u fun e w' => e = .returned (.int .i64 (quoZ (l.length : Int))) ∧ Below u.heap.size u w') := hid (fun u => cquorum_any _ (by omega) u)
  unfold quoOk
  generalize cntS L t = C at HC ⊢
  generalize quoZ (l.length : Int) = Z at HQ ⊢
  clear hL h hlm hbA
  go_enter Try.func52, Try.ntmps52
  go_wp2_with (first
    | (refine wl_box_arr rfl _ _ rfl _ rfl ?_))
  obtain ⟨wa, ea⟩ : ∃ wa, wa = w.alloc (.cells (sC L).toArray 74) := ⟨_, rfl⟩
  rw [← ea] at HA ⊢
  clear ea
  have HS : Hid ((SlA wa.drew g ep am cm l v ps ∧ BxAt wa.drew w.heap.size (sC L) 74)) := hid ⟨HA.out.1.1.keep (Below.refl _ _).drew, HA.out.1.2⟩
  have HB : Hid (Below w.heap.size w wa.drew) := hid HA.out.2.drew
  refine wp_region_G (S := fun ww => SlA ww g ep am cm l v ps ∧ BxAt ww w.heap.size (sC L) 74) (ex := []) (by kernel_rfl) ?_
  try (change wpAnyG _ _ _ _ _ _ _ _ _ (World.drew _))
  refine wpAnyG_take (i := 0) (v := .agg (sC L).toArray) rfl (by kernel_rfl) (fun _ _ _ h => h) (yieldsIf_load_mid (by rfl) 74 _ rfl w.heap.size 0 rfl (sC L) _ (fun _ hS => fun q u hq => by rw [Nat.zero_add]; exact hS.2.cell q u hq) Try.underlying74 rfl (by rw [HLs.out.1]; kernel_rfl)) HS.out ?rest99
  go_simp
  refine wpAnyG_take (i := 1) (v := ?v1) rfl (by kernel_rfl) (fun _ _ _ h => h) (Or.inl ⟨by rfl, ?hy1⟩) HS.out ?rest1
  case hy1 => (intro ww _; go_simp; try with_reducible rfl)
  go_simp
  refine wpAnyG_take (i := 3) (v := ?v2) rfl (by kernel_rfl) (fun _ _ _ h => h) (Or.inl ⟨by rfl, ?hy2⟩) HS.out ?rest2
  case hy2 => (intro ww _; go_simp; try with_reducible rfl)
  go_simp
  refine wpAnyG_take (i := 4) (v := ?v3) rfl (by kernel_rfl) (fun _ _ _ h => h) (Or.inl ⟨by rfl, ?hy3⟩) HS.out ?rest3
  case hy3 => (intro ww _; go_simp; try with_reducible rfl)
  go_simp
  refine wpAnyG_take (i := 5) (v := ?v4) rfl (by kernel_rfl) (fun _ _ _ h => h) (Or.inl ⟨by rfl, ?hy4⟩) HS.out ?rest4
  case hy4 => (intro ww _; go_simp; try with_reducible rfl)
  go_simp
  refine wpAnyG_take (i := 6) (v := ?v5) rfl (by kernel_rfl) (fun _ _ _ h => h) (Or.inl ⟨by rfl, ?hy5⟩) HS.out ?rest5
  case hy5 => (intro ww _; go_simp; try with_reducible rfl)
  go_simp
  refine wpAnyG_take (i := 7) (v := ?v6) rfl (by kernel_rfl) (fun _ _ _ h => h) (Or.inl ⟨by rfl, ?hy6⟩) HS.out ?rest6
  case hy6 => (intro ww hS; have y1 := hS.1.c1; go_simp; try with_reducible rfl)
  go_simp
  refine wpAnyG_take (i := 8) (v := ?v7) rfl (by kernel_rfl) (fun _ _ _ h => h) (Or.inl ⟨by rfl, ?hy7⟩) HS.out ?rest7
  case hy7 => (intro ww _; go_simp; try with_reducible rfl)
  go_simp
  refine wpAnyG_all (rs := [2]) (by kernel_rfl) (by simp) ?_
  intro i hi
  obtain rfl := List.mem_singleton.1 hi
  clear hi
  refine wpOp_s rfl (by rfl) (fun K hK => ?_)
  go_simp
  refine (HC.out _).mono ?_
  rintro e w1 ⟨rfl, hb1⟩
  have H1 : Hid ((SlA w1 g ep am cm l v ps ∧ BxAt w1 w.heap.size (sC L) 74) ∧ Below w.heap.size w w1) := hid ⟨⟨HS.out.1.keep hb1, HS.out.2.keep hb1⟩, HB.out.trans (hb1.mono HB.out.size)⟩
  clear hb1
  refine hK _ _ ⟨fun _ => H1.out.1, ?_⟩
  clear hK K
  go_simp
  refine wpAnyG_all (rs := [9]) (by kernel_rfl) (by simp) ?_
  intro i hi
  obtain rfl := List.mem_singleton.1 hi
  clear hi
  refine wpOp_s rfl (by rfl) (fun K hK => ?_)
  go_simp
  refine (HQ.out _).mono ?_
  rintro e w2 ⟨rfl, hb2⟩
  have H2 : Hid ((SlA w2 g ep am cm l v ps ∧ BxAt w2 w.heap.size (sC L) 74) ∧ Below w.heap.size w w2) := hid ⟨⟨H1.out.1.1.keep hb2, H1.out.1.2.keep hb2⟩, H1.out.2.trans (hb2.mono H1.out.2.size)⟩
  clear hb2
  refine hK _ _ ⟨fun _ => H2.out.1, ?_⟩
  clear hK K
  go_simp
  refine wpAnyG_take (i := 10) (v := ?v8) rfl (by kernel_rfl) (fun _ _ _ h => h) (Or.inl ⟨by rfl, ?hy8⟩) H2.out.1 ?rest8
  case hy8 => (intro ww _; go_simp; try with_reducible rfl)
  go_simp
  refine wpAnyG_take (i := 11) (v := ?v9) rfl (by kernel_rfl) (fun _ _ _ h => h) (Or.inl ⟨by rfl, ?hy9⟩) H2.out.1 ?rest9
  case hy9 => (intro ww _; go_simp; try with_reducible rfl)
  go_simp
  refine wpAnyG_done (by kernel_rfl) ?_ _
  go_simp
  go_wp2
  go_ret
  exact ⟨rfl, H2.out.2⟩
theorem load_blk2 {w : World} {b : Nat} {L : List Value} {T TB : TypeId} (h : BxAt w b L TB) (d : TypeDesc) (hu : Try.prog.underlying T = some d) (hd : d.isRow = true) (hi : (Try.prog.info? T).map (·.size) = some L.length) : (loadVar T ⟨b, 0, none⟩).run Try.prog w = .ok (.agg L.toArray) w :=
  run_loadVar_mid (P := Try.prog) w b 0 T L d (fun j v hv => by rw [Nat.zero_add]; exact cell_at h j v hv) hu hd hi
set_option maxRecDepth 100000 in
set_option maxHeartbeats 1600000 in
theorem ssign_any (g : Nat) (ep : Int) (am : Option Addr) (cm : Nat) (l : List Int) (v : Int) (ps : List Pl) (id slot : Int) (r : Rq) (hb : r.b < 18446744073709551616) (hi : ep ≤ 9223372036854775807 ∧ v ≤ 9223372036854775807 ∧ slot ≤ 9223372036854775807) (w : World) (h : SlA w g ep am cm l v ps) : Calls Try.prog 50 #[.pointer (some ⟨g, 0, none⟩), .int .i64 id, .int .i64 slot, .agg #[.int .i64 r.c, .int .i64 r.st, .int .i64 r.k, .string r.key, .float .f64 r.b, .int .i64 r.id]] w fun e w' => e = .returned (.agg #[.int .i64 id, .string (prT ep v slot r)]) ∧ Below w.heap.size w w' := by
  obtain ⟨wa, ea⟩ : ∃ wa, wa = (w.alloc (.cells #[.int .i64 r.c, .int .i64 r.st, .int .i64 r.k, .string r.key, .float .f64 r.b, .int .i64 r.id] 43)).alloc (.cells #[.int .i64 0, .string ⟨#[]⟩] 67) := ⟨_, rfl⟩
  have hba : Below w.heap.size w wa := by rw [ea]; exact ((Below.refl _ _).alloc (Nat.le_refl _) _).alloc (by simp) _
  have hX1 : BxAt wa w.heap.size [.int .i64 r.c, .int .i64 r.st, .int .i64 r.k, .string r.key, .float .f64 r.b, .int .i64 r.id] 43 := by rw [ea]; exact (Below.heap_alloc _ _ _ (by simp)).trans (heap_alloc_last w _)
  have hX2 : BxAt wa (w.heap.size + 1) [.int .i64 0, .string ⟨#[]⟩] 67 := by rw [ea]; exact snd_alloc _ _ _
  have H0 := hid (And.intro hX2 hba)
  have HEa := hid ea
  have HT : Hid (∀ u : World, Calls Try.prog 67 #[.int .i64 ep, .int .i64 v, .int .i64 slot, .agg #[.int .i64 r.c, .int .i64 r.st, .int .i64 r.k, .string r.key, .float .f64 r.b, .int .i64 r.id]] u fun e w' => e = .returned (.tuple #[.string (prT ep v slot r), .int .i64 (prE ep v slot r)]) ∧ Below u.heap.size u w') := hid (fun u => dprepared_any ep v slot hi r hb u)
  have HSl := hid (h.keep hba)
  have HX1 := hid hX1
  generalize prT ep v slot r = tx at HT ⊢
  generalize prE ep v slot r = er at HT
  clear hi h hb hba hX1 hX2 ea
  go_enter Try.func50, Try.ntmps50
  go_wp2_with fail
  rw [← HEa.out]
  have HS : Hid (SlA wa.drew g ep am cm l v ps ∧ BxAt wa.drew w.heap.size [.int .i64 r.c, .int .i64 r.st, .int .i64 r.k, .string r.key, .float .f64 r.b, .int .i64 r.id] 43) := hid ⟨HSl.out.keep (Below.refl _ _).drew, HX1.out⟩
  have HX2 : Hid (BxAt wa.drew (w.heap.size + 1) [.int .i64 0, .string ⟨#[]⟩] 67 ∧ Below w.heap.size w wa.drew) := hid ⟨H0.out.1, H0.out.2.drew⟩
  refine wp_region_G (S := fun ww => SlA ww g ep am cm l v ps ∧ BxAt ww w.heap.size [.int .i64 r.c, .int .i64 r.st, .int .i64 r.k, .string r.key, .float .f64 r.b, .int .i64 r.id] 43) (ex := []) (by kernel_rfl) ?_
  try (change wpAnyG _ _ _ _ _ _ _ _ _ (World.drew _))
  refine wpAnyG_take (i := 0) (v := ?v1) rfl (by kernel_rfl) (fun _ _ _ h => h) (Or.inl ⟨by rfl, ?hy1⟩) HS.out ?rest1
  case hy1 => (intro ww _; go_simp; try with_reducible rfl)
  go_simp
  refine wpAnyG_take (i := 1) (v := ?v2) rfl (by kernel_rfl) (fun _ _ _ h => h) (Or.inl ⟨by rfl, ?hy2⟩) HS.out ?rest2
  case hy2 => (intro ww _; go_simp; try with_reducible rfl)
  go_simp
  refine wpAnyG_take (i := 2) (v := ?v3) rfl (by kernel_rfl) (fun _ _ _ h => h) (Or.inl ⟨by rfl, ?hy3⟩) HS.out ?rest3
  case hy3 => (intro ww _; go_simp; try with_reducible rfl)
  go_simp
  refine wpAnyG_take (i := 3) (v := ?v4) rfl (by kernel_rfl) (fun _ _ _ h => h) (Or.inl ⟨by rfl, ?hy4⟩) HS.out ?rest4
  case hy4 => (intro ww _; go_simp; try with_reducible rfl)
  go_simp
  refine wpAnyG_take (i := 4) (v := ?v5) rfl (by kernel_rfl) (fun _ _ _ h => h) (Or.inl ⟨by rfl, ?hy5⟩) HS.out ?rest5
  case hy5 => (intro ww hS; have y0 := hS.1.c0; go_simp; try with_reducible rfl)
  go_simp
  refine wpAnyG_take (i := 5) (v := ?v6) rfl (by kernel_rfl) (fun _ _ _ h => h) (Or.inl ⟨by rfl, ?hy6⟩) HS.out ?rest6
  case hy6 => (intro ww _; go_simp; try with_reducible rfl)
  go_simp
  refine wpAnyG_take (i := 6) (v := ?v7) rfl (by kernel_rfl) (fun _ _ _ h => h) (Or.inl ⟨by rfl, ?hy7⟩) HS.out ?rest7
  case hy7 => (intro ww _; go_simp; try with_reducible rfl)
  go_simp
  refine wpAnyG_take (i := 7) (v := ?v8) rfl (by kernel_rfl) (fun _ _ _ h => h) (Or.inl ⟨by rfl, ?hy8⟩) HS.out ?rest8
  case hy8 => (intro ww _; go_simp; try with_reducible rfl)
  go_simp
  refine wpAnyG_take (i := 8) (v := ?v9) rfl (by kernel_rfl) (fun _ _ _ h => h) (Or.inl ⟨by rfl, ?hy9⟩) HS.out ?rest9
  case hy9 => (intro ww hS; have y2 := hS.1.c2; go_simp; try with_reducible rfl)
  go_simp
  refine wpAnyG_take (i := 9) (v := ?v10) rfl (by kernel_rfl) (fun _ _ _ h => h) (Or.inl ⟨by rfl, ?hy10⟩) HS.out ?rest10
  case hy10 => (intro ww _; go_simp; try with_reducible rfl)
  go_simp
  refine wpAnyG_take (i := 10) (v := ?v11) rfl (by kernel_rfl) (fun _ _ _ h => h) (Or.inl ⟨by rfl, ?hy11⟩) HS.out ?rest11
  case hy11 => (intro ww hS; have q0 := hS.2.cell 0 _ rfl; have q1 := hS.2.cell 1 _ rfl; have q2 := hS.2.cell 2 _ rfl; have q3 := hS.2.cell 3 _ rfl; have q4 := hS.2.cell 4 _ rfl; have q5 := hS.2.cell 5 _ rfl; go_simp; try with_reducible rfl)
  go_simp
  refine wpAnyG_all (rs := [11]) (by kernel_rfl) (by simp) ?_
  intro i hi
  obtain rfl := List.mem_singleton.1 hi
  clear hi
  refine wpOp_s rfl (by rfl) (fun K hK => ?_)
  go_simp
  refine (HT.out _).mono ?_
  rintro e w1 ⟨rfl, hb1⟩
  have H1 : Hid ((SlA w1 g ep am cm l v ps ∧ BxAt w1 w.heap.size [.int .i64 r.c, .int .i64 r.st, .int .i64 r.k, .string r.key, .float .f64 r.b, .int .i64 r.id] 43) ∧ BxAt w1 (w.heap.size + 1) [.int .i64 0, .string ⟨#[]⟩] 67 ∧ Below w.heap.size w w1) := hid ⟨⟨HS.out.1.keep hb1, HS.out.2.keep hb1⟩, HX2.out.1.keep hb1, HX2.out.2.trans (hb1.mono HX2.out.2.size)⟩
  clear hb1
  refine hK _ _ ⟨fun _ => H1.out.1, ?_⟩
  clear hK K
  go_simp
  refine wpAnyG_take (i := 12) (v := ?v12) rfl (by kernel_rfl) (fun _ _ _ h => h) (Or.inl ⟨by rfl, ?hy12⟩) H1.out.1 ?rest12
  case hy12 => (intro ww _; go_simp; try with_reducible rfl)
  go_simp
  refine wpAnyG_take (i := 13) (v := ?v13) rfl (by kernel_rfl) (fun _ _ _ h => h) (Or.inl ⟨by rfl, ?hy13⟩) H1.out.1 ?rest13
  case hy13 => (intro ww _; go_simp; try with_reducible rfl)
  go_simp
  refine wpAnyG_take (i := 14) (v := ?v14) rfl (by kernel_rfl) (fun _ _ _ h => h) (Or.inl ⟨by rfl, ?hy14⟩) H1.out.1 ?rest14
  case hy14 => (intro ww _; go_simp; try with_reducible rfl)
  go_simp
  refine wpAnyG_take (i := 15) (v := ?v15) rfl (by kernel_rfl) (fun _ _ _ h => h) (Or.inl ⟨by rfl, ?hy15⟩) H1.out.1 ?rest15
  case hy15 => (intro ww _; go_simp; try with_reducible rfl)
  go_simp
  refine wpAnyG_take (i := 16) (v := ?v16) rfl (by kernel_rfl) (fun _ _ _ h => h) (Or.inl ⟨by rfl, ?hy16⟩) H1.out.1 ?rest16
  case hy16 => (intro ww _; go_simp; try with_reducible rfl)
  go_simp
  refine wpAnyG_done (by kernel_rfl) ?_ _
  go_simp
  go_wp2_with (first
    | (have := H1; refine wl_store_blk rfl 67 _ _ rfl (w.heap.size + 1) 0 rfl #[.int .i64 id, .string tx] rfl [.int .i64 0, .string ⟨#[]⟩] 67 H1.out.2.1 (by simp) (by kernel_rfl) (by simp [Value.oneCell']) ?_; intro w3 Hz; go_must (have H3 : Hid (BxAt w3 (w.heap.size + 1) [.int .i64 id, .string tx] 67 ∧ Below w.heap.size w w3) := hid ⟨Hz.out.1, Hz.out.2.below H1.out.2.2 (by omega)⟩); clear Hz))
  refine ret_oneS (s := 8) (ad := ⟨w.heap.size + 1, 0, none⟩) rfl rfl (load_blk2 H3.out.1 _ Try.underlying67 rfl (by kernel_rfl)) rfl ?_
  exact ⟨rfl, H3.out.2⟩
end Go.Proofs.Ytohhlolmojeomaa

/- Is a slot's proposal prepared. -/
namespace Go.Proofs.Ytohhlolmojeomaa
open Go.RowKit

theorem pro_of {w : World} {g : Nat} {ep : Int} {am : Option Addr} {cm : Nat} {l : List Int} {v : Int} {ps : List Pl} (h : SlA w g ep am cm l v ps) {i : Nat} {p : Pl} (hi : ps[i]? = some p) : w.cell? ⟨g, 3 + i * 43, none⟩ = some (.string p.pro) := h.at i p 0 _ hi (by omega) rfl
set_option maxRecDepth 100000 in
set_option maxHeartbeats 1600000 in
theorem sprep_nil (s : Int) (w : World) : Calls Try.prog 29 #[.pointer none, .int .i64 s] w fun e w' => e = .returned (.bool false) ∧ Below w.heap.size w w' := by
  go_enter Try.func29, Try.ntmps29
  go_wp2_with (go_at_call 42; go_must (refine (sat_nil _ _).mono ?_); rintro e w1 ⟨rfl, hw1⟩; replace hw1 := hw1.symm; subst hw1)
  have HS : Hid True := hid trivial
  refine wp_region_G (S := fun ww => True) (ex := []) (by kernel_rfl) ?_
  try (change wpAnyG _ _ _ _ _ _ _ _ _ (World.drew _))
  refine wpAnyG_take (i := 0) (v := ?v1) rfl (by kernel_rfl) (fun _ _ _ h => h) (Or.inl ⟨by rfl, ?hy1⟩) HS.out ?rest1
  case hy1 => (intro ww _; go_simp; try with_reducible rfl)
  go_simp
  refine wpAnyG_take (i := 1) (v := ?v2) rfl (by kernel_rfl) (fun _ _ _ h => h) (Or.inl ⟨by rfl, ?hy2⟩) HS.out ?rest2
  case hy2 => (intro ww _; go_simp; try with_reducible rfl)
  go_simp
  refine wpAnyG_take (i := 2) (v := ?v3) rfl (by kernel_rfl) (fun _ _ _ h => h) (Or.inl ⟨by rfl, ?hy3⟩) HS.out ?rest3
  case hy3 => (intro ww _; go_simp; try with_reducible rfl)
  go_simp
  refine wpAnyG_take (i := 3) (v := undef) rfl (by kernel_rfl) (fun _ _ _ h => h) (Or.inr ⟨by rfl, rfl⟩) HS.out ?rest4
  go_simp
  refine wpAnyG_take (i := 4) (v := undef) rfl (by kernel_rfl) (fun _ _ _ h => h) (Or.inr ⟨by rfl, rfl⟩) HS.out ?rest5
  go_simp
  refine wpAnyG_take (i := 5) (v := undef) rfl (by kernel_rfl) (fun _ _ _ h => h) (Or.inr ⟨by rfl, rfl⟩) HS.out ?rest6
  go_simp
  refine wpAnyG_take (i := 6) (v := undef) rfl (by kernel_rfl) (fun _ _ _ h => h) (Or.inr ⟨by rfl, rfl⟩) HS.out ?rest7
  go_simp
  refine wpAnyG_take (i := 7) (v := undef) rfl (by kernel_rfl) (fun _ _ _ h => h) (Or.inr ⟨by rfl, rfl⟩) HS.out ?rest8
  go_simp
  refine wpAnyG_take (i := 8) (v := undef) rfl (by kernel_rfl) (fun _ _ _ h => h) (Or.inr ⟨by rfl, rfl⟩) HS.out ?rest9
  go_simp
  refine wpAnyG_take (i := 9) (v := ?v10) rfl (by kernel_rfl) (fun _ _ _ h => h) (Or.inl ⟨by rfl, ?hy10⟩) HS.out ?rest10
  case hy10 => (intro ww _; go_simp; try with_reducible rfl)
  go_simp
  refine wpAnyG_take (i := 10) (v := ?v11) rfl (by kernel_rfl) (fun _ _ _ h => h) (Or.inl ⟨by rfl, ?hy11⟩) HS.out ?rest11
  case hy11 => (intro ww _; go_simp; try with_reducible rfl)
  go_simp
  refine wpAnyG_take (i := 11) (v := undef) rfl (by kernel_rfl) (fun _ _ _ h => h) (Or.inr ⟨by rfl, rfl⟩) HS.out ?rest12
  go_simp
  refine wpAnyG_take (i := 12) (v := undef) rfl (by kernel_rfl) (fun _ _ _ h => h) (Or.inr ⟨by rfl, rfl⟩) HS.out ?rest13
  go_simp
  refine wpAnyG_take (i := 13) (v := undef) rfl (by kernel_rfl) (fun _ _ _ h => h) (Or.inr ⟨by rfl, rfl⟩) HS.out ?rest14
  go_simp
  refine wpAnyG_take (i := 14) (v := undef) rfl (by kernel_rfl) (fun _ _ _ h => h) (Or.inr ⟨by rfl, rfl⟩) HS.out ?rest15
  go_simp
  refine wpAnyG_take (i := 15) (v := undef) rfl (by kernel_rfl) (fun _ _ _ h => h) (Or.inr ⟨by rfl, rfl⟩) HS.out ?rest16
  go_simp
  refine wpAnyG_take (i := 16) (v := undef) rfl (by kernel_rfl) (fun _ _ _ h => h) (Or.inr ⟨by rfl, rfl⟩) HS.out ?rest17
  go_simp
  refine wpAnyG_take (i := 17) (v := undef) rfl (by kernel_rfl) (fun _ _ _ h => h) (Or.inr ⟨by rfl, rfl⟩) HS.out ?rest18
  go_simp
  refine wpAnyG_take (i := 18) (v := undef) rfl (by kernel_rfl) (fun _ _ _ h => h) (Or.inr ⟨by rfl, rfl⟩) HS.out ?rest19
  go_simp
  refine wpAnyG_take (i := 19) (v := undef) rfl (by kernel_rfl) (fun _ _ _ h => h) (Or.inr ⟨by rfl, rfl⟩) HS.out ?rest20
  go_simp
  refine wpAnyG_take (i := 20) (v := undef) rfl (by kernel_rfl) (fun _ _ _ h => h) (Or.inr ⟨by rfl, rfl⟩) HS.out ?rest21
  go_simp
  refine wpAnyG_take (i := 21) (v := undef) rfl (by kernel_rfl) (fun _ _ _ h => h) (Or.inr ⟨by rfl, rfl⟩) HS.out ?rest22
  go_simp
  refine wpAnyG_take (i := 22) (v := undef) rfl (by kernel_rfl) (fun _ _ _ h => h) (Or.inr ⟨by rfl, rfl⟩) HS.out ?rest23
  go_simp
  refine wpAnyG_take (i := 23) (v := ?v24) rfl (by kernel_rfl) (fun _ _ _ h => h) (Or.inl ⟨by rfl, ?hy24⟩) HS.out ?rest24
  case hy24 => (intro ww _; go_simp; try with_reducible rfl)
  go_simp
  refine wpAnyG_take (i := 24) (v := ?v25) rfl (by kernel_rfl) (fun _ _ _ h => h) (Or.inl ⟨by rfl, ?hy25⟩) HS.out ?rest25
  case hy25 => (intro ww _; go_simp; try with_reducible rfl)
  go_simp
  refine wpAnyG_done (by kernel_rfl) ?_ _
  go_simp
  go_wp2
  go_ret
  exact ⟨rfl, (Below.refl _ _).drew⟩
set_option maxRecDepth 100000 in
set_option maxHeartbeats 1600000 in
theorem sprep_no (g : Nat) (ep : Int) (am : Option Addr) (cm : Nat) (l : List Int) (v : Int) (ps : List Pl) (s : Int) (w : World) (h : SlA w g ep am cm l v ps) (hl : 0 < l.length) (he : 0 ≤ ep ∧ ep ≤ 60) (hs : s ≤ 4 * ep ∨ 4 * ep + 4 < s) : Calls Try.prog 29 #[.pointer (some ⟨g, 0, none⟩), .int .i64 s] w fun e w' => e = .returned (.bool false) ∧ Below w.heap.size w w' := by
  have HA := hid (sat_no g ep am cm l v ps s w h hl he hs)
  clear h hl he hs
  go_enter Try.func29, Try.ntmps29
  go_wp2_with (go_at_call 42; go_must (refine HA.out.mono ?_); rintro e w1 ⟨rfl, hw1⟩; replace hw1 := hw1.symm; subst hw1)
  have HS : Hid True := hid trivial
  refine wp_region_G (S := fun ww => True) (ex := []) (by kernel_rfl) ?_
  try (change wpAnyG _ _ _ _ _ _ _ _ _ (World.drew _))
  refine wpAnyG_take (i := 0) (v := ?v1) rfl (by kernel_rfl) (fun _ _ _ h => h) (Or.inl ⟨by rfl, ?hy1⟩) HS.out ?rest1
  case hy1 => (intro ww _; go_simp; try with_reducible rfl)
  go_simp
  refine wpAnyG_take (i := 1) (v := ?v2) rfl (by kernel_rfl) (fun _ _ _ h => h) (Or.inl ⟨by rfl, ?hy2⟩) HS.out ?rest2
  case hy2 => (intro ww _; go_simp; try with_reducible rfl)
  go_simp
  refine wpAnyG_take (i := 2) (v := ?v3) rfl (by kernel_rfl) (fun _ _ _ h => h) (Or.inl ⟨by rfl, ?hy3⟩) HS.out ?rest3
  case hy3 => (intro ww _; go_simp; try with_reducible rfl)
  go_simp
  refine wpAnyG_take (i := 3) (v := undef) rfl (by kernel_rfl) (fun _ _ _ h => h) (Or.inr ⟨by rfl, rfl⟩) HS.out ?rest4
  go_simp
  refine wpAnyG_take (i := 4) (v := undef) rfl (by kernel_rfl) (fun _ _ _ h => h) (Or.inr ⟨by rfl, rfl⟩) HS.out ?rest5
  go_simp
  refine wpAnyG_take (i := 5) (v := undef) rfl (by kernel_rfl) (fun _ _ _ h => h) (Or.inr ⟨by rfl, rfl⟩) HS.out ?rest6
  go_simp
  refine wpAnyG_take (i := 6) (v := undef) rfl (by kernel_rfl) (fun _ _ _ h => h) (Or.inr ⟨by rfl, rfl⟩) HS.out ?rest7
  go_simp
  refine wpAnyG_take (i := 7) (v := undef) rfl (by kernel_rfl) (fun _ _ _ h => h) (Or.inr ⟨by rfl, rfl⟩) HS.out ?rest8
  go_simp
  refine wpAnyG_take (i := 8) (v := undef) rfl (by kernel_rfl) (fun _ _ _ h => h) (Or.inr ⟨by rfl, rfl⟩) HS.out ?rest9
  go_simp
  refine wpAnyG_take (i := 9) (v := ?v10) rfl (by kernel_rfl) (fun _ _ _ h => h) (Or.inl ⟨by rfl, ?hy10⟩) HS.out ?rest10
  case hy10 => (intro ww _; go_simp; try with_reducible rfl)
  go_simp
  refine wpAnyG_take (i := 10) (v := ?v11) rfl (by kernel_rfl) (fun _ _ _ h => h) (Or.inl ⟨by rfl, ?hy11⟩) HS.out ?rest11
  case hy11 => (intro ww _; go_simp; try with_reducible rfl)
  go_simp
  refine wpAnyG_take (i := 11) (v := undef) rfl (by kernel_rfl) (fun _ _ _ h => h) (Or.inr ⟨by rfl, rfl⟩) HS.out ?rest12
  go_simp
  refine wpAnyG_take (i := 12) (v := undef) rfl (by kernel_rfl) (fun _ _ _ h => h) (Or.inr ⟨by rfl, rfl⟩) HS.out ?rest13
  go_simp
  refine wpAnyG_take (i := 13) (v := undef) rfl (by kernel_rfl) (fun _ _ _ h => h) (Or.inr ⟨by rfl, rfl⟩) HS.out ?rest14
  go_simp
  refine wpAnyG_take (i := 14) (v := undef) rfl (by kernel_rfl) (fun _ _ _ h => h) (Or.inr ⟨by rfl, rfl⟩) HS.out ?rest15
  go_simp
  refine wpAnyG_take (i := 15) (v := undef) rfl (by kernel_rfl) (fun _ _ _ h => h) (Or.inr ⟨by rfl, rfl⟩) HS.out ?rest16
  go_simp
  refine wpAnyG_take (i := 16) (v := undef) rfl (by kernel_rfl) (fun _ _ _ h => h) (Or.inr ⟨by rfl, rfl⟩) HS.out ?rest17
  go_simp
  refine wpAnyG_take (i := 17) (v := undef) rfl (by kernel_rfl) (fun _ _ _ h => h) (Or.inr ⟨by rfl, rfl⟩) HS.out ?rest18
  go_simp
  refine wpAnyG_take (i := 18) (v := undef) rfl (by kernel_rfl) (fun _ _ _ h => h) (Or.inr ⟨by rfl, rfl⟩) HS.out ?rest19
  go_simp
  refine wpAnyG_take (i := 19) (v := undef) rfl (by kernel_rfl) (fun _ _ _ h => h) (Or.inr ⟨by rfl, rfl⟩) HS.out ?rest20
  go_simp
  refine wpAnyG_take (i := 20) (v := undef) rfl (by kernel_rfl) (fun _ _ _ h => h) (Or.inr ⟨by rfl, rfl⟩) HS.out ?rest21
  go_simp
  refine wpAnyG_take (i := 21) (v := undef) rfl (by kernel_rfl) (fun _ _ _ h => h) (Or.inr ⟨by rfl, rfl⟩) HS.out ?rest22
  go_simp
  refine wpAnyG_take (i := 22) (v := undef) rfl (by kernel_rfl) (fun _ _ _ h => h) (Or.inr ⟨by rfl, rfl⟩) HS.out ?rest23
  go_simp
  refine wpAnyG_take (i := 23) (v := ?v24) rfl (by kernel_rfl) (fun _ _ _ h => h) (Or.inl ⟨by rfl, ?hy24⟩) HS.out ?rest24
  case hy24 => (intro ww _; go_simp; try with_reducible rfl)
  go_simp
  refine wpAnyG_take (i := 24) (v := ?v25) rfl (by kernel_rfl) (fun _ _ _ h => h) (Or.inl ⟨by rfl, ?hy25⟩) HS.out ?rest25
  case hy25 => (intro ww _; go_simp; try with_reducible rfl)
  go_simp
  refine wpAnyG_done (by kernel_rfl) ?_ _
  go_simp
  go_wp2
  go_ret
  exact ⟨rfl, (Below.refl _ _).drew⟩
theorem isPrep_no {n : Nat} {p : Pp} (h : p.pro.size = 0) : isPrep n p = false := by simp [isPrep, h]
theorem isPrep_yes {n : Nat} {p : Pp} (h : p.pro.size ≠ 0) : isPrep n p = quoOk n p.pre p.pro := by simp [isPrep, h]
set_option maxRecDepth 100000 in
set_option maxHeartbeats 1600000 in
theorem sprep_any (g : Nat) (ep : Int) (am : Option Addr) (cm : Nat) (l : List Int) (v : Int) (ps : List Pl) (i : Nat) (p : Pl) (w : World) (h : SlA w g ep am cm l v ps) (hl : 0 < l.length) (hlm : l.length ≤ 1000) (he : 0 ≤ ep ∧ ep ≤ 60) (hi : ps[i]? = some p) : Calls Try.prog 29 #[.pointer (some ⟨g, 0, none⟩), .int .i64 (4 * ep + 1 + (i : Int))] w fun e w' => e = .returned (.bool (isPrep l.length p.pp)) ∧ Below w.heap.size w w' := by
  have hi4 : i < 4 := by have := (List.getElem?_eq_some_iff.1 hi).1; rw [h.four] at this; exact this
  have HA := hid (sat_yes g ep am cm l v ps i w h hl he hi4)
  have HI := hid hi
  have HQ : Hid (∀ u : World, SlA u g ep am cm l v ps → Calls Try.prog 52 #[.pointer (some ⟨g, 0, none⟩), .agg (sC p.pre).toArray, .string p.pro] u fun e w' => e = .returned (.bool (quoOk l.length p.pre p.pro)) ∧ Below u.heap.size u w') := hid (fun u hu => squo_any g ep am cm l v ps p.pre (hu.ok p (List.mem_of_getElem? hi)).pre p.pro u hu hlm)
  have HLs : Hid ((sC p.pre).length = 16) := hid (by rw [sC_len]; exact (h.ok p (List.mem_of_getElem? hi)).pre)
  have HL := hid h
  have y0 := pro_of h hi
  generalize 4 * ep + 1 + (i : Int) = s at HA ⊢
  by_cases hz : p.pro.size = 0
  · have hE : p.pro.toList = [] := by rw [ByteArray.toList_eq]; exact List.eq_nil_of_length_eq_zero (by simpa using hz)
    rw [isPrep_no (p := p.pp) hz]
    have hne : p.pro.toList.isEmpty = true := by rw [hE]; rfl
    clear h hl hlm he hi hi4 hz hE y0
    go_enter Try.func29, Try.ntmps29
    go_wp2_with (go_at_call 42; go_must (refine HA.out.mono ?_); rintro e w1 ⟨rfl, hw1⟩; replace hw1 := hw1.symm; subst hw1)
    have HS : Hid (SlA w.drew g ep am cm l v ps) := hid (HL.out.keep (Below.refl _ _).drew)
    refine wp_region_G (S := fun ww => SlA ww g ep am cm l v ps) (ex := []) (by kernel_rfl) ?_
    try (change wpAnyG _ _ _ _ _ _ _ _ _ (World.drew _))
    refine wpAnyG_take (i := 0) (v := ?v1) rfl (by kernel_rfl) (fun _ _ _ h => h) (Or.inl ⟨by rfl, ?hy1⟩) HS.out ?rest1
    case hy1 => (intro ww _; go_simp; try with_reducible rfl)
    go_simp
    refine wpAnyG_take (i := 1) (v := ?v2) rfl (by kernel_rfl) (fun _ _ _ h => h) (Or.inl ⟨by rfl, ?hy2⟩) HS.out ?rest2
    case hy2 => (intro ww _; go_simp; try with_reducible rfl)
    go_simp
    refine wpAnyG_take (i := 2) (v := ?v3) rfl (by kernel_rfl) (fun _ _ _ h => h) (Or.inl ⟨by rfl, ?hy3⟩) HS.out ?rest3
    case hy3 => (intro ww _; go_simp; try with_reducible rfl)
    go_simp
    refine wpAnyG_take (i := 3) (v := ?v4) rfl (by kernel_rfl) (fun _ _ _ h => h) (Or.inl ⟨by rfl, ?hy4⟩) HS.out ?rest4
    case hy4 => (intro ww _; go_simp; try with_reducible rfl)
    go_simp
    refine wpAnyG_take (i := 4) (v := ?v5) rfl (by kernel_rfl) (fun _ _ _ h => h) (Or.inl ⟨by rfl, ?hy5⟩) HS.out ?rest5
    case hy5 => (intro ww _; go_simp; try with_reducible rfl)
    go_simp
    refine wpAnyG_take (i := 5) (v := ?v6) rfl (by kernel_rfl) (fun _ _ _ h => h) (Or.inl ⟨by rfl, ?hy6⟩) HS.out ?rest6
    case hy6 => (intro ww _; go_simp; try with_reducible rfl)
    go_simp
    refine wpAnyG_take (i := 6) (v := ?v7) rfl (by kernel_rfl) (fun _ _ _ h => h) (Or.inl ⟨by rfl, ?hy7⟩) HS.out ?rest7
    case hy7 => (intro ww _; go_simp; try with_reducible rfl)
    go_simp
    refine wpAnyG_take (i := 7) (v := ?v8) rfl (by kernel_rfl) (fun _ _ _ h => h) (Or.inl ⟨by rfl, ?hy8⟩) HS.out ?rest8
    case hy8 => (intro ww hS; have y0 := pro_of hS HI.out; go_simp; try with_reducible rfl)
    go_simp
    refine wpAnyG_take (i := 8) (v := ?v9) rfl (by kernel_rfl) (fun _ _ _ h => h) (Or.inl ⟨by rfl, ?hy9⟩) HS.out ?rest9
    case hy9 => (intro ww _; go_simp; try with_reducible rfl)
    go_simp
    refine wpAnyG_take (i := 9) (v := ?v10) rfl (by kernel_rfl) (fun _ _ _ h => h) (Or.inl ⟨by rfl, ?hy10⟩) HS.out ?rest10
    case hy10 => (intro ww _; go_simp; try with_reducible rfl)
    go_simp
    refine wpAnyG_take (i := 10) (v := ?v11) rfl (by kernel_rfl) (fun _ _ _ h => h) (Or.inl ⟨by rfl, ?hy11⟩) HS.out ?rest11
    case hy11 => (intro ww _; go_simp; try with_reducible rfl)
    go_simp
    refine wpAnyG_take (i := 11) (v := undef) rfl (by kernel_rfl) (fun _ _ _ h => h) (Or.inr ⟨by rfl, rfl⟩) HS.out ?rest12
    go_simp
    refine wpAnyG_take (i := 12) (v := undef) rfl (by kernel_rfl) (fun _ _ _ h => h) (Or.inr ⟨by rfl, rfl⟩) HS.out ?rest13
    go_simp
    refine wpAnyG_take (i := 13) (v := undef) rfl (by kernel_rfl) (fun _ _ _ h => h) (Or.inr ⟨by rfl, rfl⟩) HS.out ?rest14
    go_simp
    refine wpAnyG_take (i := 14) (v := undef) rfl (by kernel_rfl) (fun _ _ _ h => h) (Or.inr ⟨by rfl, rfl⟩) HS.out ?rest15
    go_simp
    refine wpAnyG_take (i := 15) (v := undef) rfl (by kernel_rfl) (fun _ _ _ h => h) (Or.inr ⟨by rfl, rfl⟩) HS.out ?rest16
    go_simp
    refine wpAnyG_take (i := 16) (v := undef) rfl (by kernel_rfl) (fun _ _ _ h => h) (Or.inr ⟨by rfl, rfl⟩) HS.out ?rest17
    go_simp
    refine wpAnyG_take (i := 17) (v := undef) rfl (by kernel_rfl) (fun _ _ _ h => h) (Or.inr ⟨by rfl, rfl⟩) HS.out ?rest18
    go_simp
    refine wpAnyG_take (i := 18) (v := undef) rfl (by kernel_rfl) (fun _ _ _ h => h) (Or.inr ⟨by rfl, rfl⟩) HS.out ?rest19
    go_simp
    refine wpAnyG_take (i := 19) (v := undef) rfl (by kernel_rfl) (fun _ _ _ h => h) (Or.inr ⟨by rfl, rfl⟩) HS.out ?rest20
    go_simp
    refine wpAnyG_take (i := 20) (v := undef) rfl (by kernel_rfl) (fun _ _ _ h => h) (Or.inr ⟨by rfl, rfl⟩) HS.out ?rest21
    go_simp
    refine wpAnyG_take (i := 21) (v := undef) rfl (by kernel_rfl) (fun _ _ _ h => h) (Or.inr ⟨by rfl, rfl⟩) HS.out ?rest22
    go_simp
    refine wpAnyG_take (i := 22) (v := undef) rfl (by kernel_rfl) (fun _ _ _ h => h) (Or.inr ⟨by rfl, rfl⟩) HS.out ?rest23
    go_simp
    refine wpAnyG_take (i := 23) (v := ?v24) rfl (by kernel_rfl) (fun _ _ _ h => h) (Or.inl ⟨by rfl, ?hy24⟩) HS.out ?rest24
    case hy24 => (intro ww _; go_simp; try with_reducible rfl)
    go_simp
    refine wpAnyG_take (i := 24) (v := ?v25) rfl (by kernel_rfl) (fun _ _ _ h => h) (Or.inl ⟨by rfl, ?hy25⟩) HS.out ?rest25
    case hy25 => (intro ww _; go_simp; try with_reducible rfl)
    go_simp
    refine wpAnyG_done (by kernel_rfl) ?_ _
    go_simp
    go_wp2
    go_ret
    exact ⟨rfl, (Below.refl _ _).drew⟩
  · rw [isPrep_yes (p := p.pp) hz]
    have hne : p.pro.toList.isEmpty = false := by
      rw [ByteArray.toList_eq]
      cases e : p.pro.data.toList.isEmpty with
      | false => rfl
      | true => rw [List.isEmpty_iff] at e; exact absurd (by have := congrArg List.length e; simpa using this) hz
    change Calls _ _ _ _ fun e w' => e = .returned (.bool (quoOk l.length p.pre p.pro)) ∧ _
    generalize quoOk l.length p.pre p.pro = B at HQ ⊢
    clear h hl hlm he hi hi4 hz y0
    go_enter Try.func29, Try.ntmps29
    go_wp2_with (go_at_call 42; go_must (refine HA.out.mono ?_); rintro e w1 ⟨rfl, hw1⟩; replace hw1 := hw1.symm; subst hw1)
    have HS : Hid (SlA w.drew g ep am cm l v ps) := hid (HL.out.keep (Below.refl _ _).drew)
    have HB : Hid (Below w.heap.size w w.drew) := hid (Below.refl _ _).drew
    refine wp_region_G (S := fun ww => SlA ww g ep am cm l v ps) (ex := []) (by kernel_rfl) ?_
    try (change wpAnyG _ _ _ _ _ _ _ _ _ (World.drew _))
    refine wpAnyG_take (i := 0) (v := ?v201) rfl (by kernel_rfl) (fun _ _ _ h => h) (Or.inl ⟨by rfl, ?hy201⟩) HS.out ?rest201
    case hy201 => (intro ww _; go_simp; try with_reducible rfl)
    go_simp
    refine wpAnyG_take (i := 1) (v := ?v202) rfl (by kernel_rfl) (fun _ _ _ h => h) (Or.inl ⟨by rfl, ?hy202⟩) HS.out ?rest202
    case hy202 => (intro ww _; go_simp; try with_reducible rfl)
    go_simp
    refine wpAnyG_take (i := 2) (v := ?v203) rfl (by kernel_rfl) (fun _ _ _ h => h) (Or.inl ⟨by rfl, ?hy203⟩) HS.out ?rest203
    case hy203 => (intro ww _; go_simp; try with_reducible rfl)
    go_simp
    refine wpAnyG_take (i := 3) (v := ?v204) rfl (by kernel_rfl) (fun _ _ _ h => h) (Or.inl ⟨by rfl, ?hy204⟩) HS.out ?rest204
    case hy204 => (intro ww _; go_simp; try with_reducible rfl)
    go_simp
    refine wpAnyG_take (i := 4) (v := ?v205) rfl (by kernel_rfl) (fun _ _ _ h => h) (Or.inl ⟨by rfl, ?hy205⟩) HS.out ?rest205
    case hy205 => (intro ww _; go_simp; try with_reducible rfl)
    go_simp
    refine wpAnyG_take (i := 5) (v := ?v206) rfl (by kernel_rfl) (fun _ _ _ h => h) (Or.inl ⟨by rfl, ?hy206⟩) HS.out ?rest206
    case hy206 => (intro ww _; go_simp; try with_reducible rfl)
    go_simp
    refine wpAnyG_take (i := 6) (v := ?v207) rfl (by kernel_rfl) (fun _ _ _ h => h) (Or.inl ⟨by rfl, ?hy207⟩) HS.out ?rest207
    case hy207 => (intro ww _; go_simp; try with_reducible rfl)
    go_simp
    refine wpAnyG_take (i := 7) (v := ?v208) rfl (by kernel_rfl) (fun _ _ _ h => h) (Or.inl ⟨by rfl, ?hy208⟩) HS.out ?rest208
    case hy208 => (intro ww hS; have y0 := pro_of hS HI.out; go_simp; try with_reducible rfl)
    go_simp
    refine wpAnyG_take (i := 8) (v := ?v209) rfl (by kernel_rfl) (fun _ _ _ h => h) (Or.inl ⟨by rfl, ?hy209⟩) HS.out ?rest209
    case hy209 => (intro ww _; go_simp; try with_reducible rfl)
    go_simp
    refine wpAnyG_take (i := 9) (v := ?v210) rfl (by kernel_rfl) (fun _ _ _ h => h) (Or.inl ⟨by rfl, ?hy210⟩) HS.out ?rest210
    case hy210 => (intro ww _; go_simp; try with_reducible rfl)
    go_simp
    refine wpAnyG_take (i := 10) (v := ?v211) rfl (by kernel_rfl) (fun _ _ _ h => h) (Or.inl ⟨by rfl, ?hy211⟩) HS.out ?rest211
    case hy211 => (intro ww _; go_simp; try with_reducible rfl)
    go_simp
    refine wpAnyG_take (i := 11) (v := ?v212) rfl (by kernel_rfl) (fun _ _ _ h => h) (Or.inl ⟨by rfl, ?hy212⟩) HS.out ?rest212
    case hy212 => (intro ww _; go_simp; try with_reducible rfl)
    go_simp
    refine wpAnyG_take (i := 12) (v := ?v213) rfl (by kernel_rfl) (fun _ _ _ h => h) (Or.inl ⟨by rfl, ?hy213⟩) HS.out ?rest213
    case hy213 => (intro ww _; go_simp; try with_reducible rfl)
    go_simp
    refine wpAnyG_take (i := 13) (v := ?v214) rfl (by kernel_rfl) (fun _ _ _ h => h) (Or.inl ⟨by rfl, ?hy214⟩) HS.out ?rest214
    case hy214 => (intro ww _; go_simp; try with_reducible rfl)
    go_simp
    refine wpAnyG_take (i := 14) (v := ?v215) rfl (by kernel_rfl) (fun _ _ _ h => h) (Or.inl ⟨by rfl, ?hy215⟩) HS.out ?rest215
    case hy215 => (intro ww _; go_simp; try with_reducible rfl)
    go_simp
    refine wpAnyG_take (i := 15) (v := ?v216) rfl (by kernel_rfl) (fun _ _ _ h => h) (Or.inl ⟨by rfl, ?hy216⟩) HS.out ?rest216
    case hy216 => (intro ww _; go_simp; try with_reducible rfl)
    go_simp
    refine wpAnyG_take (i := 16) (v := .agg (sC p.pre).toArray) rfl (by kernel_rfl) (fun _ _ _ h => h) (yieldsIf_load_mid (by rfl) 74 _ rfl g (3 + i * 43 + 1) rfl (sC p.pre) _ (fun _ hS => hS.pre16 HI.out) Try.underlying74 rfl (by rw [HLs.out]; kernel_rfl)) HS.out ?rest99
    go_simp
    refine wpAnyG_take (i := 17) (v := ?v217) rfl (by kernel_rfl) (fun _ _ _ h => h) (Or.inl ⟨by rfl, ?hy217⟩) HS.out ?rest217
    case hy217 => (intro ww _; go_simp; try with_reducible rfl)
    go_simp
    refine wpAnyG_take (i := 18) (v := ?v218) rfl (by kernel_rfl) (fun _ _ _ h => h) (Or.inl ⟨by rfl, ?hy218⟩) HS.out ?rest218
    case hy218 => (intro ww _; go_simp; try with_reducible rfl)
    go_simp
    refine wpAnyG_take (i := 19) (v := ?v219) rfl (by kernel_rfl) (fun _ _ _ h => h) (Or.inl ⟨by rfl, ?hy219⟩) HS.out ?rest219
    case hy219 => (intro ww _; go_simp; try with_reducible rfl)
    go_simp
    refine wpAnyG_take (i := 20) (v := ?v220) rfl (by kernel_rfl) (fun _ _ _ h => h) (Or.inl ⟨by rfl, ?hy220⟩) HS.out ?rest220
    case hy220 => (intro ww _; go_simp; try with_reducible rfl)
    go_simp
    refine wpAnyG_take (i := 21) (v := ?v221) rfl (by kernel_rfl) (fun _ _ _ h => h) (Or.inl ⟨by rfl, ?hy221⟩) HS.out ?rest221
    case hy221 => (intro ww hS; have y0 := pro_of hS HI.out; go_simp; try with_reducible rfl)
    go_simp
    refine wpAnyG_all (rs := [22]) (by kernel_rfl) (by simp) ?_
    intro i hi
    obtain rfl := List.mem_singleton.1 hi
    clear hi
    refine wpOp_s rfl (by rfl) (fun K hK => ?_)
    go_simp
    refine (HQ.out _ HS.out).mono ?_
    rintro e w1 ⟨rfl, hb1⟩
    have H1 : Hid (SlA w1 g ep am cm l v ps ∧ Below w.heap.size w w1) := hid ⟨HS.out.keep hb1, HB.out.trans (hb1.mono HB.out.size)⟩
    clear hb1
    refine hK _ _ ⟨fun _ => H1.out.1, ?_⟩
    clear hK K
    go_simp
    refine wpAnyG_take (i := 23) (v := ?v222) rfl (by kernel_rfl) (fun _ _ _ h => h) (Or.inl ⟨by rfl, ?hy222⟩) H1.out.1 ?rest222
    case hy222 => (intro ww _; go_simp; try with_reducible rfl)
    go_simp
    refine wpAnyG_take (i := 24) (v := ?v223) rfl (by kernel_rfl) (fun _ _ _ h => h) (Or.inl ⟨by rfl, ?hy223⟩) H1.out.1 ?rest223
    case hy223 => (intro ww _; go_simp; try with_reducible rfl)
    go_simp
    refine wpAnyG_done (by kernel_rfl) ?_ _
    go_simp
    go_wp2
    go_ret
    exact ⟨rfl, H1.out.2⟩
end Go.Proofs.Ytohhlolmojeomaa

/- The request whose text stands there. -/
namespace Go.Proofs.Ytohhlolmojeomaa
open Go.RowKit

theorem load_rqS (w : World) (b : Nat) (x0 x1 x2 x3 x4 x5 : Value) (h : w.heap[b]? = some (.cells #[x0, x1, x2, x3, x4, x5] 43 (0, 0))) : (loadVar 43 ⟨b, 0, none⟩).run Try.prog w = .ok (.agg #[x0, x1, x2, x3, x4, x5]) w := by
  have c0 := cell_at (L := [x0, x1, x2, x3, x4, x5]) h 0 _ rfl
  have c1 := cell_at (L := [x0, x1, x2, x3, x4, x5]) h 1 _ rfl
  have c2 := cell_at (L := [x0, x1, x2, x3, x4, x5]) h 2 _ rfl
  have c3 := cell_at (L := [x0, x1, x2, x3, x4, x5]) h 3 _ rfl
  have c4 := cell_at (L := [x0, x1, x2, x3, x4, x5]) h 4 _ rfl
  have c5 := cell_at (L := [x0, x1, x2, x3, x4, x5]) h 5 _ rfl
  go_simp
set_option maxRecDepth 100000 in
set_option maxHeartbeats 1600000 in
theorem sread_any (t : ByteArray) (ht : t.size ≤ 9223372036854775807) (w : World) : Calls Try.prog 43 #[.string t] w fun e w' => e = .returned (.tuple #[.agg #[.int .i64 (rdR t).c, .int .i64 (rdR t).st, .int .i64 (rdR t).k, .string (rdR t).key, .float .f64 (rdR t).b, .int .i64 (rdR t).id], .bool (rdE t == 0)]) ∧ Below w.heap.size w w' := by
  have HR : Hid (∀ u : World, Calls Try.prog 62 #[.string t] u fun e w' => e = .returned (.tuple #[.agg #[.int .i64 (rdR t).c, .int .i64 (rdR t).st, .int .i64 (rdR t).k, .string (rdR t).key, .float .f64 (rdR t).b, .int .i64 (rdR t).id], .int .i64 (rdE t)]) ∧ Below u.heap.size u w') := hid (fun u => dread_any t ht u)
  have H0 : Hid (BxAt (w.alloc (.cells #[.int .i64 0, .int .i64 0, .int .i64 0, .string ⟨#[]⟩, .float .f64 0, .int .i64 0] 43)) w.heap.size [.int .i64 0, .int .i64 0, .int .i64 0, .string ⟨#[]⟩, .float .f64 0, .int .i64 0] 43 ∧ Below w.heap.size w (w.alloc (.cells #[.int .i64 0, .int .i64 0, .int .i64 0, .string ⟨#[]⟩, .float .f64 0, .int .i64 0] 43))) := hid ⟨heap_alloc_last w _, (Below.refl _ _).alloc (Nat.le_refl _) _⟩
  obtain ⟨r, er⟩ : ∃ r, r = rdR t := ⟨_, rfl⟩
  rw [← er] at HR ⊢
  generalize rdE t = E at HR ⊢
  clear er ht
  go_enter Try.func43, Try.ntmps43
  go_wp2_with (first
    | (have := H2; refine wl_store_blk rfl 43 _ _ rfl w.heap.size 0 rfl #[.int .i64 r.c, .int .i64 r.st, .int .i64 r.k, .string r.key, .float .f64 r.b, .int .i64 r.id] rfl [.int .i64 0, .int .i64 0, .int .i64 0, .string ⟨#[]⟩, .float .f64 0, .int .i64 0] 43 H2.out.2.1 (by simp) (by kernel_rfl) (by simp [Value.oneCell']) ?_; intro w3 Hz; go_must (have H3 : Hid (BxAt w3 w.heap.size [.int .i64 r.c, .int .i64 r.st, .int .i64 r.k, .string r.key, .float .f64 r.b, .int .i64 r.id] 43 ∧ Below w.heap.size w w3) := hid ⟨Hz.out.1, Hz.out.2.below H2.out.2.2 (Nat.le_refl _)⟩); clear Hz)
    | (refine wl_store_blk rfl 43 _ _ rfl w1.heap.size 0 rfl #[.int .i64 r.c, .int .i64 r.st, .int .i64 r.k, .string r.key, .float .f64 r.b, .int .i64 r.id] rfl [.int .i64 0, .int .i64 0, .int .i64 0, .string ⟨#[]⟩, .float .f64 0, .int .i64 0] 43 (heap_alloc_last w1 _) (by simp) (by kernel_rfl) (by simp [Value.oneCell']) ?_; intro w2 Hz; go_must (have H2 : Hid (BxAt w2 w1.heap.size [.int .i64 r.c, .int .i64 r.st, .int .i64 r.k, .string r.key, .float .f64 r.b, .int .i64 r.id] 43 ∧ BxAt w2 w.heap.size [.int .i64 0, .int .i64 0, .int .i64 0, .string ⟨#[]⟩, .float .f64 0, .int .i64 0] 43 ∧ Below w.heap.size w w2) := hid (by have hb : Below w1.heap.size w1 w2 := Hz.out.2.below ((Below.refl _ _).alloc (Nat.le_refl _) _) (Nat.le_refl _); exact ⟨Hz.out.1, H1.out.1.keep hb, H1.out.2.trans (hb.mono H1.out.2.size)⟩)); clear Hz; have c0 := H2.out.1.cell 0 _ rfl; have c1 := H2.out.1.cell 1 _ rfl; have c2 := H2.out.1.cell 2 _ rfl; have c3 := H2.out.1.cell 3 _ rfl; have c4 := H2.out.1.cell 4 _ rfl; have c5 := H2.out.1.cell 5 _ rfl)
    | (go_at_call 62; go_must (refine (HR.out _).mono ?_); rintro e w1 ⟨rfl, hb1⟩; have H1 : Hid (BxAt w1 w.heap.size [.int .i64 0, .int .i64 0, .int .i64 0, .string ⟨#[]⟩, .float .f64 0, .int .i64 0] 43 ∧ Below w.heap.size w w1) := hid ⟨H0.out.1.keep hb1, H0.out.2.trans (hb1.mono H0.out.2.size)⟩; clear hb1))
  refine ret_pair (s := 2) (s2 := 3) (ad := ⟨w.heap.size, 0, none⟩) rfl rfl (load_rqS _ _ _ _ _ _ _ _ H3.out.1) rfl rfl ?_
  exact ⟨rfl, H3.out.2⟩
end Go.Proofs.Ytohhlolmojeomaa

/- One thing more in a row of one's own, by an append in a region; a store of a slice. -/
namespace Go.Proofs.Ytohhlolmojeomaa
open Go.RowKit

section
variable {o : Oper} {a : Act} {w : World} {K : Act → World → Prop} {Q : Exit → Act → World → Prop} {ops : Array Oper} {rest : List Oper}
theorem owp_storeV (T : TypeId) (p x : Operand) (ho : o.op = .store T p x) (b off : Nat) (hp : a.eval p = .pointer (some ⟨b, off, none⟩)) (u : Value) (hx : a.eval x = u) (hc : u.cells = #[u]) (h1 : u.oneCell' = true) (L : List Value) (TB : TypeId) (hL : w.heap[b]? = some (.cells L.toArray TB (0, 0))) (hn : off < L.length)
    (hi : (Try.prog.info? T).map (·.size) = some 1) (h : ∀ w', Hid (w'.heap[b]? = some (.cells (L.set off u).toArray TB (0, 0)) ∧ One b w w') → K (a.put o.dst undef) w') : o.wp Try.prog a w K Q := by
  have hcl : w.cell? ⟨b, off, none⟩ = some L[off] := cell_at hL off _ (List.getElem?_eq_getElem hn)
  have hf : w.frozen? ⟨b, off, none⟩ = false := free_at hL _
  have hb : (w.setCell ⟨b, off, none⟩ u).heap[b]? = some (.cells (L.set off u).toArray TB (0, 0)) := by have := blk_set hL off u; simpa using this
  refine owp_skip (w' := w.setCell ⟨b, off, none⟩ u) ?_ (h _ ⟨hb, one_cells b [u] off w⟩)
  have hr := run_store Try.prog w ⟨b, off, none⟩ u .plain h1
  rw [hcl] at hr
  simp only [hf] at hr
  cases hq : Try.prog.info? T with
  | none => simp [hq] at hi
  | some i =>
    have hs : i.size = 1 := by simp [hq] at hi; omega
    simp [execOp, ho, Instr.storeAt, Instr.sureAddr, hp, hx, storeVar, sizeOf, typeInfo, hq, hs, hc, storeCells, Addr.add, hr, Result.andThen]
theorem owp_append_at (s x : Operand) (t : TypeId) (ho : o.op = .call { callee := .builtin .append, args := #[s, x], argTypes := #[t, t] })
    (base : Nat) (e : TypeId) (i : TypeInfo) (z : Value) (size bytes : Nat) (ht : Try.prog.underlying t = some (.slice e)) (hi : Try.prog.info? e = some i) (hz : i.zero = some z)
    (hsize : i.size = size) (hby : i.bytes = bytes) (hzs : z.cells.size = size) (hsz : 0 < size)
    (v : Value) (n : Nat) (xs : List Value) (hs : a.eval s = v) (hown : w.ownsRow base e size v n xs)
    (ad : Addr) (m c : Nat) (news : List Value) (hx : a.eval x = .slice (some ad) m c) (hl : news.length = m * size) (hnews : ∀ j u, news[j]? = some u → w.cell? (ad.add j) = some u) (h1 : ∀ u ∈ news, u.oneCell' = true)
    (h63 : n + m ≤ maxLen) (hbytes : (n + m) * bytes ≤ 140737488355328) (hbase : base ≤ w.heap.size)
    (h : ∀ v' w', w'.ownsRow base e size v' (n + m) (xs ++ news) → w.grownBy w' v.ownBlock → (v'.ownBlock = v.ownBlock ∨ v'.ownBlock = some w.heap.size) → K (a.put o.dst v') w') : o.wp Try.prog a w K Q := by
  obtain ⟨v', w', hr, h2, h3, h4, h5⟩ := run_append_own_at (P := Try.prog) w base t o.type e i z size bytes ht hi hz hsize hby hzs hsz v n xs hown ad m c news hl hnews h1 h63 hbytes hbase
  unfold Oper.wp execOp
  simp only [ho, resolve, invoke, builtin, Sem.run_bind, Sem.run_pure, Result.andThen_ok, List.map_toArray, List.map_cons, List.map_nil, hs, hx, hr]
  exact h v' w' h2 h3 h5
end
end Go.Proofs.Ytohhlolmojeomaa

/- The certificate of what is prepared. -/
namespace Go.Proofs.Ytohhlolmojeomaa
open Go.RowKit

theorem rd_small (t : ByteArray) : (rdR t).b < 18446744073709551616 := by
  rw [rdR]
  split
  · decide
  · split
    · rename_i h; exact (told_back h).2.2
    · decide
theorem whoS_len (L : List ByteArray) (t x : ByteArray) : ∀ k, (whoS L t x k).length ≤ k
  | 0 => Nat.le_refl _
  | k + 1 => by
    rw [whoS_succ, List.length_append]
    have := whoS_len L t x k
    split
    · simp; omega
    · simp; omega
theorem get_beq {s t : ByteArray} (h : s ≠ t) : (s.toList == t.toList) = false := by
  cases e : (s.toList == t.toList) with
  | false => rfl
  | true => simp only [ByteArray.toList_eq, beq_iff_eq] at e; exact absurd (bytes_eq e) h
/-- While a certificate is made: the round's box, the answer's, the request's, the certificate's with its signatures at y. -/
structure CyS (w wr : World) (g : Nat) (ep : Int) (am : Option Addr) (cm : Nat) (l : List Int) (v : Int) (ps : List Pl) (p : Pl) (slot : Int) (r : Rq) (b2 : Nat) (y : Value) : Prop where
  lg : SlA wr g ep am cm l v ps
  rd : BxAt wr w.heap.size (nowC p) 76
  zz : BxAt wr (w.heap.size + 1) [.int .i64 0, .int .i64 0, .int .i64 0, .int .i64 0, .int .i64 0, .string ⟨#[]⟩, .float .f64 0, .int .i64 0, .slice none 0 0] 46
  rq : BxAt wr b2 [.int .i64 r.c, .int .i64 r.st, .int .i64 r.k, .string r.key, .float .f64 r.b, .int .i64 r.id] 43
  ct : BxAt wr (b2 + 1) [.int .i64 v, .int .i64 slot, .int .i64 r.c, .int .i64 r.st, .int .i64 r.k, .string r.key, .float .f64 r.b, .int .i64 r.id, y] 46
  bel : Below w.heap.size w wr
  lo : w.heap.size + 1 < b2
theorem CyS.keep {w wr w' : World} {g : Nat} {ep : Int} {am : Option Addr} {cm : Nat} {l : List Int} {v : Int} {ps : List Pl} {p : Pl} {slot : Int} {r : Rq} {b2 : Nat} {y : Value} (h : CyS w wr g ep am cm l v ps p slot r b2 y) (hb : Below wr.heap.size wr w') : CyS w w' g ep am cm l v ps p slot r b2 y :=
  ⟨h.lg.keep hb, h.rd.keep hb, h.zz.keep hb, h.rq.keep hb, h.ct.keep hb, h.bel.trans (hb.mono h.bel.size), h.lo⟩
structure CyY (w wr : World) (g : Nat) (ep : Int) (am : Option Addr) (cm : Nat) (l : List Int) (v : Int) (ps : List Pl) (p : Pl) (r : Rq) (b2 : Nat) : Prop where
  lg : SlA wr g ep am cm l v ps
  rd : BxAt wr w.heap.size (nowC p) 76
  zz : BxAt wr (w.heap.size + 1) [.int .i64 0, .int .i64 0, .int .i64 0, .int .i64 0, .int .i64 0, .string ⟨#[]⟩, .float .f64 0, .int .i64 0, .slice none 0 0] 46
  rq : BxAt wr b2 [.int .i64 r.c, .int .i64 r.st, .int .i64 r.k, .string r.key, .float .f64 r.b, .int .i64 r.id] 43
  bel : Below w.heap.size w wr
  lo : w.heap.size + 1 < b2
  sz : wr.heap.size = b2 + 1
theorem CyY.drew {w wr : World} {g : Nat} {ep : Int} {am : Option Addr} {cm : Nat} {l : List Int} {v : Int} {ps : List Pl} {p : Pl} {r : Rq} {b2 : Nat} (h : CyY w wr g ep am cm l v ps p r b2) : CyY w wr.drew g ep am cm l v ps p r b2 :=
  ⟨h.lg.keep (Below.refl _ _).drew, h.rd, h.zz, h.rq, h.bel.drew, h.lo, h.sz⟩
theorem cy_start {w w1 w3 : World} {g : Nat} {ep : Int} {am : Option Addr} {cm : Nat} {l : List Int} {v : Int} {ps : List Pl} {p : Pl} {r : Rq} {b2 : Nat} (H1 : SlA w1 g ep am cm l v ps ∧ BxAt w1 w.heap.size (nowC p) 76 ∧ BxAt w1 (w.heap.size + 1) [.int .i64 0, .int .i64 0, .int .i64 0, .int .i64 0, .int .i64 0, .string ⟨#[]⟩, .float .f64 0, .int .i64 0, .slice none 0 0] 46 ∧ Below w.heap.size w w1) (eb : b2 = w1.heap.size) (Hz : w3.heap[w1.heap.size]? = some (.cells [.int .i64 r.c, .int .i64 r.st, .int .i64 r.k, .string r.key, .float .f64 r.b, .int .i64 r.id].toArray 43 (0, 0)) ∧ One w1.heap.size (w1.alloc (.cells #[.int .i64 0, .int .i64 0, .int .i64 0, .string ⟨#[]⟩, .float .f64 0, .int .i64 0] 43)) w3) : CyY w w3 g ep am cm l v ps p r b2 := by
  have hb : Below w1.heap.size w1 w3 := Hz.2.below ((Below.refl _ _).alloc (Nat.le_refl _) _) (Nat.le_refl _)
  refine ⟨H1.1.keep hb, H1.2.1.keep hb, H1.2.2.1.keep hb, ?_, H1.2.2.2.trans (hb.mono H1.2.2.2.size), ?_, ?_⟩
  · show w3.heap[b2]? = _; rw [eb]; exact Hz.1
  · have := lt_of_blk H1.2.2.1; omega
  · rw [eb]; simpa using Hz.2.size
theorem now_pre {w : World} {b : Nat} {p : Pl} (h : BxAt w b (nowC p) 76) (_hp : p.pre.length = 16) : w.rangeAt b 1 (sC p.pre) := fun q u hq => by
  rw [Nat.add_comm]
  refine h.cell (q + 1) u ?_
  have hl := (List.getElem?_eq_some_iff.1 hq).1
  rw [nowC, List.getElem?_cons_succ, List.getElem?_append_left hl]
  exact hq
set_option maxRecDepth 100000 in
set_option maxHeartbeats 3200000 in
theorem scertify_any (g : Nat) (ep : Int) (am : Option Addr) (cm : Nat) (l : List Int) (v : Int) (ps : List Pl) (p : Pl) (hp : PlOk p) (hsz : p.pro.size ≤ 64) (slot : Int) (hi : ep ≤ 9223372036854775807 ∧ v ≤ 9223372036854775807 ∧ slot ≤ 9223372036854775807) (w : World) (h : SlA w g ep am cm l v ps) :
    Calls Try.prog 66 #[.pointer (some ⟨g, 0, none⟩), .int .i64 slot, .agg (nowC p).toArray] w fun e w' => ∃ a k, e = .returned (.agg (ctC (certP ep v slot p.pp) (.slice a (certP ep v slot p.pp).2.2.2.length k)).toArray) ∧ PairsIn w' a (certP ep v slot p.pp).2.2.2 ∧ (∀ x, a = some x → w.heap.size ≤ x.block) ∧ Below w.heap.size w w' := by
  obtain ⟨iv, hv0, hvz0, hvz1, hvz2⟩ := info_parts Try.info67
  obtain ⟨r, er⟩ : ∃ r, r = rdR p.pro := ⟨_, rfl⟩
  have hrb : r.b < 18446744073709551616 := by rw [er]; exact rd_small _
  obtain ⟨tx, et⟩ : ∃ tx, tx = prT ep v slot r := ⟨_, rfl⟩
  have hcert : certP ep v slot p.pp = (v, slot, r, (whoS p.pre p.pro tx 16)) := by rw [et, er]; rfl
  rw [hcert]
  have HR : Hid (∀ u : World, Calls Try.prog 43 #[.string p.pro] u fun e w' => e = .returned (.tuple #[.agg #[.int .i64 r.c, .int .i64 r.st, .int .i64 r.k, .string r.key, .float .f64 r.b, .int .i64 r.id], .bool (rdE p.pro == 0)]) ∧ Below u.heap.size u w') := hid (fun u => by rw [er]; exact sread_any p.pro (by omega) u)
  have HG : Hid (∀ u : World, SlA u g ep am cm l v ps → ∀ id : Int, Calls Try.prog 50 #[.pointer (some ⟨g, 0, none⟩), .int .i64 id, .int .i64 slot, .agg #[.int .i64 r.c, .int .i64 r.st, .int .i64 r.k, .string r.key, .float .f64 r.b, .int .i64 r.id]] u fun e w' => e = .returned (.agg #[.int .i64 id, .string tx]) ∧ Below u.heap.size u w') := hid (fun u hu id => by rw [et]; exact ssign_any g ep am cm l v ps id slot r hrb hi u hu)
  have HP := hid hp
  have HN : Hid ((nowC p).length = 33 ∧ (sC p.pre).length = 16 ∧ p.pre.length = 16) := hid ⟨nowC_len hp, by rw [sC_len]; exact hp.pre, hp.pre⟩
  have HLo : Hid (g < w.heap.size) := hid (lt_of_blk h.blk)
  have HMem := hid h.mem
  generalize (rdE p.pro == 0) = OKB at HR
  obtain ⟨wa, ea⟩ : ∃ wa, wa = (w.alloc (.cells (nowC p).toArray 76)).alloc (.cells #[.int .i64 0, .int .i64 0, .int .i64 0, .int .i64 0, .int .i64 0, .string ⟨#[]⟩, .float .f64 0, .int .i64 0, .slice none 0 0] 46) := ⟨_, rfl⟩
  have hba : Below w.heap.size w wa := by rw [ea]; exact ((Below.refl _ _).alloc (Nat.le_refl _) _).alloc (by simp) _
  have hX1 : BxAt wa w.heap.size (nowC p) 76 := by rw [ea]; exact (Below.heap_alloc _ _ _ (by simp)).trans (heap_alloc_last w _)
  have hX2 : BxAt wa (w.heap.size + 1) [.int .i64 0, .int .i64 0, .int .i64 0, .int .i64 0, .int .i64 0, .string ⟨#[]⟩, .float .f64 0, .int .i64 0, .slice none 0 0] 46 := by rw [ea]; exact snd_alloc _ _ _
  have H0 : Hid (SlA wa g ep am cm l v ps ∧ BxAt wa w.heap.size (nowC p) 76 ∧ BxAt wa (w.heap.size + 1) [.int .i64 0, .int .i64 0, .int .i64 0, .int .i64 0, .int .i64 0, .string ⟨#[]⟩, .float .f64 0, .int .i64 0, .slice none 0 0] 46 ∧ Below w.heap.size w wa) := hid ⟨h.keep hba, hX1, hX2, hba⟩
  have HEa := hid ea
  have y0 : ((w.alloc (.cells (nowC p).toArray 76)).alloc (.cells #[.int .i64 0, .int .i64 0, .int .i64 0, .int .i64 0, .int .i64 0, .string ⟨#[]⟩, .float .f64 0, .int .i64 0, .slice none 0 0] 46)).cell? ⟨w.heap.size, 0, none⟩ = some (.string p.pro) := by rw [← ea]; exact hX1.cell 0 _ rfl
  clear hp hsz hi h hrb er et hcert ea hba hX1 hX2
  go_enter Try.func66, Try.ntmps66
  go_wp2_with (first
    | (refine wl_box_arr rfl _ _ rfl _ rfl ?_)
    | (go_at_call 43; go_must (rw [← HEa.out]; refine (HR.out _).mono ?_); rintro e w1 ⟨rfl, hb1⟩; have H1 : Hid (SlA w1 g ep am cm l v ps ∧ BxAt w1 w.heap.size (nowC p) 76 ∧ BxAt w1 (w.heap.size + 1) [.int .i64 0, .int .i64 0, .int .i64 0, .int .i64 0, .int .i64 0, .string ⟨#[]⟩, .float .f64 0, .int .i64 0, .slice none 0 0] 46 ∧ Below w.heap.size w w1) := hid ⟨H0.out.1.keep hb1, H0.out.2.1.keep hb1, H0.out.2.2.1.keep hb1, H0.out.2.2.2.trans (hb1.mono H0.out.2.2.2.size)⟩; clear hb1 y0)
    | (have := H1; refine wl_store_blk rfl 43 _ _ rfl w1.heap.size 0 rfl #[.int .i64 r.c, .int .i64 r.st, .int .i64 r.k, .string r.key, .float .f64 r.b, .int .i64 r.id] rfl [.int .i64 0, .int .i64 0, .int .i64 0, .string ⟨#[]⟩, .float .f64 0, .int .i64 0] 43 (heap_alloc_last w1 _) (by simp) (by kernel_rfl) (by simp [Value.oneCell']) ?_; intro w3 Hz; go_must (obtain ⟨b2, eb2⟩ : ∃ b2, b2 = w1.heap.size := ⟨_, rfl⟩; have HY : Hid (CyY w w3 g ep am cm l v ps p r b2) := hid (cy_start H1.out eb2 Hz.out)); clear Hz; rw [← eb2]; clear eb2))
  have HY4 := hid HY.out.drew
  clear HY
  obtain ⟨w4, e4⟩ : ∃ u, u = w3.drew := ⟨_, rfl⟩
  rw [← e4] at HY4
  have HS : Hid (SlA w4 g ep am cm l v ps ∧ BxAt w4 b2 [.int .i64 r.c, .int .i64 r.st, .int .i64 r.k, .string r.key, .float .f64 r.b, .int .i64 r.id] 43) := hid ⟨HY4.out.lg, HY4.out.rq⟩
  refine wp_region_G (S := fun ww => SlA ww g ep am cm l v ps ∧ BxAt ww b2 [.int .i64 r.c, .int .i64 r.st, .int .i64 r.k, .string r.key, .float .f64 r.b, .int .i64 r.id] 43) (ex := [8]) (by kernel_rfl) ?_
  try (change wpAnyG _ _ _ _ _ _ _ _ _ (World.drew _))
  try rw [← e4]
  clear e4
  refine wpAnyG_take (i := 0) (v := ?v1) rfl (by kernel_rfl) (fun _ _ _ h => h) (Or.inl ⟨by rfl, ?hy1⟩) HS.out ?rest1
  case hy1 => (intro ww _; go_simp; try with_reducible rfl)
  go_simp
  refine wpAnyG_take (i := 1) (v := ?v2) rfl (by kernel_rfl) (fun _ _ _ h => h) (Or.inl ⟨by rfl, ?hy2⟩) HS.out ?rest2
  case hy2 => (intro ww _; go_simp; try with_reducible rfl)
  go_simp
  refine wpAnyG_take (i := 2) (v := ?v3) rfl (by kernel_rfl) (fun _ _ _ h => h) (Or.inl ⟨by rfl, ?hy3⟩) HS.out ?rest3
  case hy3 => (intro ww _; go_simp; try with_reducible rfl)
  go_simp
  refine wpAnyG_take (i := 3) (v := ?v4) rfl (by kernel_rfl) (fun _ _ _ h => h) (Or.inl ⟨by rfl, ?hy4⟩) HS.out ?rest4
  case hy4 => (intro ww hS; have y2 := hS.1.c2; go_simp; try with_reducible rfl)
  go_simp
  refine wpAnyG_take (i := 4) (v := ?v5) rfl (by kernel_rfl) (fun _ _ _ h => h) (Or.inl ⟨by rfl, ?hy5⟩) HS.out ?rest5
  case hy5 => (intro ww _; go_simp; try with_reducible rfl)
  go_simp
  refine wpAnyG_take (i := 5) (v := ?v6) rfl (by kernel_rfl) (fun _ _ _ h => h) (Or.inl ⟨by rfl, ?hy6⟩) HS.out ?rest6
  case hy6 => (intro ww hS; have q0 := hS.2.cell 0 _ rfl; have q1 := hS.2.cell 1 _ rfl; have q2 := hS.2.cell 2 _ rfl; have q3 := hS.2.cell 3 _ rfl; have q4 := hS.2.cell 4 _ rfl; have q5 := hS.2.cell 5 _ rfl; go_simp; try with_reducible rfl)
  go_simp
  refine wpAnyG_take (i := 6) (v := ?v7) rfl (by kernel_rfl) (fun _ _ _ h => h) (Or.inl ⟨by rfl, ?hy7⟩) HS.out ?rest7
  case hy7 => (intro ww _; go_simp; try with_reducible rfl)
  go_simp
  refine wpAnyG_all (rs := [7]) (by kernel_rfl) (by simp) ?_
  intro i hi
  obtain rfl := List.mem_singleton.1 hi
  clear hi
  refine wpOp_s rfl (by rfl) (fun K hK => ?_)
  go_simp
  have H4 : Hid ((SlA (w4.alloc (.cells #[.int .i64 0, .int .i64 0, .int .i64 0, .int .i64 0, .int .i64 0, .string ⟨#[]⟩, .float .f64 0, .int .i64 0, .slice none 0 0] 46)) g ep am cm l v ps ∧ BxAt (w4.alloc (.cells #[.int .i64 0, .int .i64 0, .int .i64 0, .int .i64 0, .int .i64 0, .string ⟨#[]⟩, .float .f64 0, .int .i64 0, .slice none 0 0] 46)) b2 [.int .i64 r.c, .int .i64 r.st, .int .i64 r.k, .string r.key, .float .f64 r.b, .int .i64 r.id] 43) ∧ BxAt (w4.alloc (.cells #[.int .i64 0, .int .i64 0, .int .i64 0, .int .i64 0, .int .i64 0, .string ⟨#[]⟩, .float .f64 0, .int .i64 0, .slice none 0 0] 46)) (b2 + 1) [.int .i64 0, .int .i64 0, .int .i64 0, .int .i64 0, .int .i64 0, .string ⟨#[]⟩, .float .f64 0, .int .i64 0, .slice none 0 0] 46 ∧ Below w4.heap.size w4 (w4.alloc (.cells #[.int .i64 0, .int .i64 0, .int .i64 0, .int .i64 0, .int .i64 0, .string ⟨#[]⟩, .float .f64 0, .int .i64 0, .slice none 0 0] 46))) := hid (by
    have hb4 : Below w4.heap.size w4 (w4.alloc (.cells #[.int .i64 0, .int .i64 0, .int .i64 0, .int .i64 0, .int .i64 0, .string ⟨#[]⟩, .float .f64 0, .int .i64 0, .slice none 0 0] 46)) := (Below.refl _ _).alloc (Nat.le_refl _) _
    refine ⟨⟨HS.out.1.keep hb4, HS.out.2.keep hb4⟩, ?_, hb4⟩
    rw [← HY4.out.sz]; exact heap_alloc_last w4 _)
  rw [HY4.out.sz]
  generalize w4.alloc (.cells #[.int .i64 0, .int .i64 0, .int .i64 0, .int .i64 0, .int .i64 0, .string ⟨#[]⟩, .float .f64 0, .int .i64 0, .slice none 0 0] 46) = w5 at H4 ⊢
  refine hK _ _ ⟨fun _ => H4.out.1, ?_⟩
  clear hK K
  go_simp
  refine wpAnyG_all (rs := [8]) (by kernel_rfl) (by simp) ?_
  intro i hi
  obtain rfl := List.mem_singleton.1 hi
  clear hi
  refine wpOp_s rfl (by rfl) (fun K hK => ?_)
  refine owp_store_blk 46 _ _ rfl (b2 + 1) 0 rfl #[.int .i64 v, .int .i64 slot, .int .i64 r.c, .int .i64 r.st, .int .i64 r.k, .string r.key, .float .f64 r.b, .int .i64 r.id, .slice none 0 0] rfl [.int .i64 0, .int .i64 0, .int .i64 0, .int .i64 0, .int .i64 0, .string ⟨#[]⟩, .float .f64 0, .int .i64 0, .slice none 0 0] 46 H4.out.2.1 (by simp) (by kernel_rfl) (by simp [Value.oneCell']) (fun w6 Hz => ?_)
  have HC6 : Hid (CyS w w6 g ep am cm l v ps p slot r b2 (.slice none 0 0)) := hid (by
    have hb45 := H4.out.2.2
    have hlt := lt_of_blk H4.out.2.1
    have hlb := HY4.out.lo
    refine ⟨?_, ?_, ?_, ?_, Hz.out.1, ?_, hlb⟩
    · have hg := lt_of_blk HS.out.1.blk
      exact ⟨(Hz.out.2.block g (by have := HY4.out.sz; omega)).trans H4.out.1.1.blk, HS.out.1.mem.keep (hb45.trans (Hz.out.2.below (Below.refl _ _) (by have := HY4.out.sz; have := hb45.size; omega))) (Nat.le_refl _), H4.out.1.1.four, H4.out.1.1.ok⟩
    · exact (Hz.out.2.block _ (by omega)).trans ((hb45.block _ (by have := HY4.out.sz; omega)).trans HY4.out.rd)
    · exact (Hz.out.2.block _ (by omega)).trans ((hb45.block _ (by have := HY4.out.sz; omega)).trans HY4.out.zz)
    · exact (Hz.out.2.block _ (by omega)).trans H4.out.1.2
    · exact (HY4.out.bel.trans (hb45.mono HY4.out.bel.size)).trans (Hz.out.2.below (Below.refl _ _) (by omega)))
  clear Hz
  refine hK _ _ ⟨fun h => absurd (by simp) h, ?_⟩
  clear hK K
  go_simp
  refine wpAnyG_done (by kernel_rfl) ?_ _
  go_simp
  go_wp2_with (refine wl_load_at rfl 74 _ rfl w.heap.size 1 rfl (sC p.pre) (now_pre HC6.out.rd HN.out.2.2) _ Try.underlying74 rfl (by rw [HN.out.2.1]; kernel_rfl) ?_)
  go_loopw [27] (fun i wr => ∃ j : Nat, j ≤ 16 ∧ i = .int .i64 (j : Int) ∧ ∃ y, CyS w wr g ep am cm l v ps p slot r b2 y ∧ wr.ownsRow (b2 + 2) 67 2 y (whoS p.pre p.pro tx j).length (pC (whoS p.pre p.pro tx j))) (fun i _ => ((16 : Int) - intOf i).toNat)
  case atStart => exact ⟨0, by omega, rfl, _, HC6.out, rfl, .inl ⟨rfl, rfl⟩⟩
  case round =>
    obtain ⟨j, hj, rfl, y, hX, hown⟩ := hrel
    have HX := hid hX
    have HOw := hid hown
    clear hX hown
    have hj0 : (0 : Int) ≤ (j : Int) := Int.natCast_nonneg _
    by_cases hjn : j = 16
    · subst hjn
      clear hj
      have hys : ∃ ay cy, y = .slice ay (whoS p.pre p.pro tx 16).length cy := by
        rcases HOw.out.2 with ⟨hv, h0⟩ | ⟨gg, cap2, cur, hv, _⟩
        · exact ⟨none, 0, by rw [hv, h0]⟩
        · exact ⟨_, _, hv⟩
      obtain ⟨ay, cy, rfl⟩ := hys
      have u0 := HX.out.ct.cell 0 _ rfl; have u1 := HX.out.ct.cell 1 _ rfl; have u2 := HX.out.ct.cell 2 _ rfl; have u3 := HX.out.ct.cell 3 _ rfl; have u4 := HX.out.ct.cell 4 _ rfl; have u5 := HX.out.ct.cell 5 _ rfl; have u6 := HX.out.ct.cell 6 _ rfl; have u7 := HX.out.ct.cell 7 _ rfl; have u8 := HX.out.ct.cell 8 _ rfl
      generalize hW : (whoS p.pre p.pro tx 16) = W at u8 HX HOw ⊢
      go_wp2_with (refine wl_store_blk rfl 46 _ _ rfl (w.heap.size + 1) 0 rfl #[.int .i64 v, .int .i64 slot, .int .i64 r.c, .int .i64 r.st, .int .i64 r.k, .string r.key, .float .f64 r.b, .int .i64 r.id, .slice ay W.length cy] rfl [.int .i64 0, .int .i64 0, .int .i64 0, .int .i64 0, .int .i64 0, .string ⟨#[]⟩, .float .f64 0, .int .i64 0, .slice none 0 0] 46 HX.out.zz (by simp) (by kernel_rfl) (by simp [Value.oneCell']) ?_; intro w9 Hz; go_must (have H9 : Hid (BxAt w9 (w.heap.size + 1) [.int .i64 v, .int .i64 slot, .int .i64 r.c, .int .i64 r.st, .int .i64 r.k, .string r.key, .float .f64 r.b, .int .i64 r.id, .slice ay W.length cy] 46 ∧ One (w.heap.size + 1) wr w9) := hid Hz.out); clear Hz)
      refine ret_oneS (s := 6) (ad := ⟨w.heap.size + 1, 0, none⟩) rfl rfl (load_blk2 H9.out.1 _ Try.underlying46 rfl (by kernel_rfl)) rfl ?_
      have ho := HOw.out
      have hlo := HX.out.lo
      have ho2 : w9.ownsRow (b2 + 2) 67 2 (.slice ay W.length cy) W.length (pC W) := by
        refine ⟨ho.1, ?_⟩
        rcases ho.2 with e | ⟨k, cap, cur, hv, hB2, hh, hr⟩
        · exact .inl e
        · exact .inr ⟨k, cap, cur, hv, hB2, (H9.out.2.block k (by omega)).trans hh, hr⟩
      obtain ⟨ad, cp, hv, hp⟩ := own_pairsT ho2
      cases hv
      subst hW
      refine ⟨ay, cy, rfl, hp, fun x hx => ?_, H9.out.2.below HX.out.bel (by omega)⟩
      have := (ho2.lt x.block (by rw [hx]; rfl)).1
      omega
    · have hj1 : (j : Int) < 16 := by omega
      obtain ⟨t, ht⟩ : ∃ t, p.pre[j]? = some t := ⟨_, List.getElem?_eq_getElem (by rw [HN.out.2.2]; omega)⟩
      have hgd : p.pre.getD j ⟨#[]⟩ = t := by rw [List.getD_eq_getElem?_getD, ht]; rfl
      have HCell : Hid ((sC p.pre).toArray[((j : Nat) : Int).toNat]? = some (.string t)) := hid (by simp [sC, ht])
      have HJ : Hid (j ≤ 16 ∧ ¬ j = 16) := hid ⟨hj, hjn⟩
      have hw1 : IntKind.i64.wrap ((j : Int) + 1) = (j : Int) + 1 := wrap_small _ (by omega) (by omega)
      have y0 := HX.out.rd.cell 0 _ rfl
      by_cases hst : t = p.pro
      · have hbe : (t.toList == p.pro.toList) = true := by rw [hst]; simp
        have HEq : Hid (p.pre.getD j ⟨#[]⟩ = p.pro) := hid (hgd.trans hst)
        clear hj hjn ht hgd hst
        go_wp2_with (first | (refine wl_index_one rfl 74 _ _ rfl _ rfl .i64 (j : Int) rfl 16 9 Try.underlying74 _ Try.underlying9 rfl (by kernel_rfl) hj0 hj1 _ HCell.out ?_))
        have HS : Hid ((SlA wr.drew g ep am cm l v ps ∧ BxAt wr.drew b2 [.int .i64 r.c, .int .i64 r.st, .int .i64 r.k, .string r.key, .float .f64 r.b, .int .i64 r.id] 43) ∧ wr.drew.heap[b2 + 1]? = some (.cells #[.int .i64 v, .int .i64 slot, .int .i64 r.c, .int .i64 r.st, .int .i64 r.k, .string r.key, .float .f64 r.b, .int .i64 r.id, y] 46 (0, 0))) := hid ⟨⟨HX.out.lg.keep (Below.refl _ _).drew, HX.out.rq⟩, HX.out.ct⟩
        refine wp_region_G (S := fun ww => (SlA ww g ep am cm l v ps ∧ BxAt ww b2 [.int .i64 r.c, .int .i64 r.st, .int .i64 r.k, .string r.key, .float .f64 r.b, .int .i64 r.id] 43) ∧ ww.heap[b2 + 1]? = some (.cells #[.int .i64 v, .int .i64 slot, .int .i64 r.c, .int .i64 r.st, .int .i64 r.k, .string r.key, .float .f64 r.b, .int .i64 r.id, y] 46 (0, 0))) (ex := [10]) (by kernel_rfl) ?_
        try (change wpAnyG _ _ _ _ _ _ _ _ _ (World.drew _))
        refine wpAnyG_take (i := 0) (v := ?v301) rfl (by kernel_rfl) (fun _ _ _ h => h) (Or.inl ⟨by rfl, ?hy301⟩) HS.out ?rest301
        case hy301 => (intro ww _; go_simp; try with_reducible rfl)
        go_simp
        refine wpAnyG_take (i := 1) (v := ?v302) rfl (by kernel_rfl) (fun _ _ _ h => h) (Or.inl ⟨by rfl, ?hy302⟩) HS.out ?rest302
        case hy302 => (intro ww hS; have y8 := cell_at (L := [_, _, _, _, _, _, _, _, _]) hS.2 8 _ rfl; go_simp; try with_reducible rfl)
        go_simp
        refine wpAnyG_take (i := 2) (v := ?v303) rfl (by kernel_rfl) (fun _ _ _ h => h) (Or.inl ⟨by rfl, ?hy303⟩) HS.out ?rest303
        case hy303 => (intro ww _; go_simp; try with_reducible rfl)
        go_simp
        refine wpAnyG_take (i := 3) (v := ?v304) rfl (by kernel_rfl) (fun _ _ _ h => h) (Or.inl ⟨by rfl, ?hy304⟩) HS.out ?rest304
        case hy304 => (intro ww _; go_simp; try with_reducible rfl)
        go_simp
        refine wpAnyG_take (i := 4) (v := ?v305) rfl (by kernel_rfl) (fun _ _ _ h => h) (Or.inl ⟨by rfl, ?hy305⟩) HS.out ?rest305
        case hy305 => (intro ww _; go_simp; try with_reducible rfl)
        go_simp
        refine wpAnyG_take (i := 5) (v := ?v306) rfl (by kernel_rfl) (fun _ _ _ h => h) (Or.inl ⟨by rfl, ?hy306⟩) HS.out ?rest306
        case hy306 => (intro ww hS; have q0 := hS.1.2.cell 0 _ rfl; have q1 := hS.1.2.cell 1 _ rfl; have q2 := hS.1.2.cell 2 _ rfl; have q3 := hS.1.2.cell 3 _ rfl; have q4 := hS.1.2.cell 4 _ rfl; have q5 := hS.1.2.cell 5 _ rfl; go_simp; try with_reducible rfl)
        go_simp
        refine wpAnyG_all (rs := [6]) (by kernel_rfl) (by simp) ?_
        intro i hi
        obtain rfl := List.mem_singleton.1 hi
        clear hi
        refine wpOp_s rfl (by rfl) (fun K hK => ?_)
        go_simp
        refine (HG.out _ HS.out.1.1 _).mono ?_
        rintro e w5 ⟨rfl, hb5⟩
        have H5 : Hid (CyS w w5 g ep am cm l v ps p slot r b2 y ∧ w5.ownsRow (b2 + 2) 67 2 y (whoS p.pre p.pro tx j).length (pC (whoS p.pre p.pro tx j)) ∧ Below wr.heap.size wr w5) := hid ⟨HX.out.keep ((Below.refl _ _).drew.trans hb5), ownsRow_keep HOw.out ((Below.refl _ _).drew.trans hb5), (Below.refl _ _).drew.trans hb5⟩
        have HS5 : Hid ((SlA w5 g ep am cm l v ps ∧ BxAt w5 b2 [.int .i64 r.c, .int .i64 r.st, .int .i64 r.k, .string r.key, .float .f64 r.b, .int .i64 r.id] 43) ∧ w5.heap[b2 + 1]? = some (.cells #[.int .i64 v, .int .i64 slot, .int .i64 r.c, .int .i64 r.st, .int .i64 r.k, .string r.key, .float .f64 r.b, .int .i64 r.id, y] 46 (0, 0))) := hid ⟨⟨H5.out.1.lg, H5.out.1.rq⟩, H5.out.1.ct⟩
        clear hb5
        refine hK _ _ ⟨fun _ => HS5.out, ?_⟩
        clear hK K
        go_simp
        refine wpAnyG_all (rs := [7]) (by kernel_rfl) (by simp) ?_
        intro i hi
        obtain rfl := List.mem_singleton.1 hi
        clear hi
        refine wpOp_s rfl (by rfl) (fun K hK => ?_)
        go_simp
        have hba := (Below.refl w5.heap.size w5).alloc (Nat.le_refl _) (.cells #[.int .i64 (j : Int), .string tx] 67)
        have H6 : Hid (CyS w (w5.alloc (.cells #[.int .i64 (j : Int), .string tx] 67)) g ep am cm l v ps p slot r b2 y ∧ (w5.alloc (.cells #[.int .i64 (j : Int), .string tx] 67)).ownsRow (b2 + 2) 67 2 y (whoS p.pre p.pro tx j).length (pC (whoS p.pre p.pro tx j)) ∧ Below w5.heap.size w5 (w5.alloc (.cells #[.int .i64 (j : Int), .string tx] 67))) := hid ⟨H5.out.1.keep hba, ownsRow_keep H5.out.2.1 hba, hba⟩
        have HS6 : Hid ((SlA (w5.alloc (.cells #[.int .i64 (j : Int), .string tx] 67)) g ep am cm l v ps ∧ BxAt (w5.alloc (.cells #[.int .i64 (j : Int), .string tx] 67)) b2 [.int .i64 r.c, .int .i64 r.st, .int .i64 r.k, .string r.key, .float .f64 r.b, .int .i64 r.id] 43) ∧ (w5.alloc (.cells #[.int .i64 (j : Int), .string tx] 67)).heap[b2 + 1]? = some (.cells #[.int .i64 v, .int .i64 slot, .int .i64 r.c, .int .i64 r.st, .int .i64 r.k, .string r.key, .float .f64 r.b, .int .i64 r.id, y] 46 (0, 0))) := hid ⟨⟨H6.out.1.lg, H6.out.1.rq⟩, H6.out.1.ct⟩
        clear hba
        refine hK _ _ ⟨fun _ => HS6.out, ?_⟩
        clear hK K
        go_simp
        refine wpAnyG_all (rs := [8]) (by kernel_rfl) (by simp) ?_
        intro i hi
        obtain rfl := List.mem_singleton.1 hi
        clear hi
        refine wpOp_s rfl (by rfl) (fun K hK => ?_)
        refine owp_append_at _ _ 44 rfl (b2 + 2) 67 iv (.agg #[.int .i64 0, .string ⟨#[]⟩]) 2 24 Try.underlying44 hv0 hvz0 hvz1 hvz2 rfl (by decide) y (whoS p.pre p.pro tx j).length (pC (whoS p.pre p.pro tx j)) rfl H6.out.2.1 ⟨w5.heap.size, 0, none⟩ 1 1 (pC [((j : Int), tx)]) rfl rfl (World.news_of_block (t := 67) (fr := (0, 0)) (heap_alloc_last w5 _)) (by simp [pC, Value.oneCell']) (by have := whoS_len p.pre p.pro tx j; have := HJ.out; unfold maxLen; omega) (by have := whoS_len p.pre p.pro tx j; have := HJ.out; omega) (by have := lt_of_blk H6.out.1.ct; omega) (fun v7 w7 hown7 hgrow7 hob7 => ?_)
        have hc7 : v7.cells = #[v7] ∧ v7.oneCell' = true := by
          rcases hown7.2 with ⟨hv, _⟩ | ⟨_, _, _, hv, _⟩ <;> (rw [hv]; exact ⟨rfl, rfl⟩)
        have hne : ∀ k, k < b2 + 2 → some k ≠ y.ownBlock := fun k hk e => by have := (H6.out.2.1.lt k e.symm).1; omega
        have H7 : Hid (CyS w w7 g ep am cm l v ps p slot r b2 y ∧ w7.ownsRow (b2 + 2) 67 2 v7 (whoS p.pre p.pro tx (j + 1)).length (pC (whoS p.pre p.pro tx (j + 1))) ∧ (v7.cells = #[v7] ∧ v7.oneCell' = true)) := hid (by
          have hlt := lt_of_blk H6.out.1.ct
          have hbg : Below (b2 + 2) (w5.alloc (.cells #[.int .i64 (j : Int), .string tx] 67)) w7 := ⟨hgrow7.os, hgrow7.tape, hgrow7.output, hgrow7.size, fun k hk => hgrow7.block k (by omega) (hne k hk)⟩
          have hlo := H6.out.1.lo
          have hgl := HLo.out
          refine ⟨⟨⟨(hbg.block _ (by omega)).trans H6.out.1.lg.blk, ?_, H6.out.1.lg.four, H6.out.1.lg.ok⟩, (hbg.block _ (by omega)).trans H6.out.1.rd, (hbg.block _ (by omega)).trans H6.out.1.zz, (hbg.block _ (by omega)).trans H6.out.1.rq, (hbg.block _ (by omega)).trans H6.out.1.ct, ?_, hlo⟩, ?_, hc7⟩
          · exact HMem.out.keep (H6.out.1.bel.trans (hbg.mono (by omega))) (Nat.le_refl _)
          · exact H6.out.1.bel.trans (hbg.mono (by omega))
          · rw [whoS_succ, if_pos HEq.out, pC_app, List.length_append]
            exact hown7)
        have HS7 : Hid ((SlA w7 g ep am cm l v ps ∧ BxAt w7 b2 [.int .i64 r.c, .int .i64 r.st, .int .i64 r.k, .string r.key, .float .f64 r.b, .int .i64 r.id] 43) ∧ w7.heap[b2 + 1]? = some (.cells #[.int .i64 v, .int .i64 slot, .int .i64 r.c, .int .i64 r.st, .int .i64 r.k, .string r.key, .float .f64 r.b, .int .i64 r.id, y] 46 (0, 0))) := hid ⟨⟨H7.out.1.lg, H7.out.1.rq⟩, H7.out.1.ct⟩
        clear hown7 hgrow7 hob7 hc7 hne
        go_simp
        refine hK _ _ ⟨fun _ => HS7.out, ?_⟩
        clear hK K
        go_simp
        refine wpAnyG_take (i := 9) (v := ?v307) rfl (by kernel_rfl) (fun _ _ _ h => h) (Or.inl ⟨by rfl, ?hy307⟩) HS7.out ?rest307
        case hy307 => (intro ww _; go_simp; try with_reducible rfl)
        go_simp
        refine wpAnyG_all (rs := [10]) (by kernel_rfl) (by simp) ?_
        intro i hi
        obtain rfl := List.mem_singleton.1 hi
        clear hi
        refine wpOp_s rfl (by rfl) (fun K hK => ?_)
        refine owp_storeV 44 _ _ rfl (b2 + 1) 8 (by rfl) v7 (by rfl) H7.out.2.2.1 H7.out.2.2.2 [.int .i64 v, .int .i64 slot, .int .i64 r.c, .int .i64 r.st, .int .i64 r.k, .string r.key, .float .f64 r.b, .int .i64 r.id, y] _ H7.out.1.ct (by simp) (by kernel_rfl) (fun w8 Hz => ?_)
        have H8 : Hid (CyS w w8 g ep am cm l v ps p slot r b2 v7 ∧ w8.ownsRow (b2 + 2) 67 2 v7 (whoS p.pre p.pro tx (j + 1)).length (pC (whoS p.pre p.pro tx (j + 1)))) := hid (by
          have hlo := H7.out.1.lo
          have hgl := HLo.out
          have hlt := lt_of_blk H7.out.1.ct
          refine ⟨⟨⟨(Hz.out.2.block _ (by omega)).trans H7.out.1.lg.blk, ?_, H7.out.1.lg.four, H7.out.1.lg.ok⟩, (Hz.out.2.block _ (by omega)).trans H7.out.1.rd, (Hz.out.2.block _ (by omega)).trans H7.out.1.zz, (Hz.out.2.block _ (by omega)).trans H7.out.1.rq, Hz.out.1, ?_, hlo⟩, ?_⟩
          · exact HMem.out.keep (H7.out.1.bel.trans (Hz.out.2.below (Below.refl _ _) (by omega))) (Nat.le_refl _)
          · exact H7.out.1.bel.trans (Hz.out.2.below (Below.refl _ _) (by omega))
          · refine ⟨H7.out.2.1.1, ?_⟩
            rcases H7.out.2.1.2 with e | ⟨k, cap, cur, hv, hB2, hh, hr⟩
            · exact .inl e
            · exact .inr ⟨k, cap, cur, hv, hB2, (Hz.out.2.block k (by omega)).trans hh, hr⟩)
        clear Hz
        refine hK _ _ ⟨fun h => absurd (by simp) h, ?_⟩
        clear hK K
        go_simp
        refine wpAnyG_done (by kernel_rfl) ?_ _
        go_simp
        go_wp2
        go_roundw
        case rel => exact ⟨j + 1, by have := HJ.out; omega, by go_num, _, H8.out.1, H8.out.2⟩
        case measure => simp [intOf]; omega
      · have hbe := get_beq hst
        have HW : Hid ((whoS p.pre p.pro tx (j + 1)) = (whoS p.pre p.pro tx j)) := hid (by rw [whoS_succ, if_neg (by rw [hgd]; exact hst), List.append_nil])
        clear hj hjn ht hgd hst
        go_wp2_with (first | (refine wl_index_one rfl 74 _ _ rfl _ rfl .i64 (j : Int) rfl 16 9 Try.underlying74 _ Try.underlying9 rfl (by kernel_rfl) hj0 hj1 _ HCell.out ?_))
        go_roundw
        case rel => exact ⟨j + 1, by have := HJ.out; omega, by go_num, y, HX.out, by rw [HW.out]; exact HOw.out⟩
        case measure => simp [intOf]; omega
end Go.Proofs.Ytohhlolmojeomaa

/- The same of what a member says. -/
namespace Go.Proofs.Ytohhlolmojeomaa
open Go.RowKit

set_option maxRecDepth 100000 in
set_option maxHeartbeats 1600000 in
theorem sfindOf_nil (s : Int) (from_ : Int) (r : Rq) (hb : r.b < 18446744073709551616) (w : World) : Calls Try.prog 49 #[.pointer none, .int .i64 from_, .int .i64 s, .agg #[.int .i64 r.c, .int .i64 r.st, .int .i64 r.k, .string r.key, .float .f64 r.b, .int .i64 r.id]] w fun e w' => e = .returned (.tuple #[.pointer none, .string ⟨#[]⟩, .int .i64 1]) ∧ Below w.heap.size w w' := by
  have H0 : Hid (RqAt (w.alloc (.cells #[.int .i64 r.c, .int .i64 r.st, .int .i64 r.k, .string r.key, .float .f64 r.b, .int .i64 r.id] 43)) w.heap.size r ∧ Below w.heap.size w (w.alloc (.cells #[.int .i64 r.c, .int .i64 r.st, .int .i64 r.k, .string r.key, .float .f64 r.b, .int .i64 r.id] 43))) := hid ⟨heap_alloc_last w _, (Below.refl _ _).alloc (Nat.le_refl _) _⟩
  obtain ⟨⟨q0, q1⟩, q2, q3, q4, q5⟩ := H0.out.1.cells
  have HF : Hid (∀ u : World, Below w.heap.size w u → Calls Try.prog 47 #[.pointer none, .int .i64 s, .agg #[.int .i64 r.c, .int .i64 r.st, .int .i64 r.k, .string r.key, .float .f64 r.b, .int .i64 r.id]] u fun e w' => e = .returned (.tuple #[.pointer none, .string ⟨#[]⟩, .int .i64 1]) ∧ Below u.heap.size u w') := hid (fun u _ => sfind_nil s r hb u)
  clear hb
  go_enter Try.func49, Try.ntmps49
  go_wp2_with (first | (go_at_call 47; go_must (refine (HF.out _ H0.out.2).mono ?_); rintro e w1 ⟨rfl, hb1⟩; have H1 := hid (H0.out.2.trans (hb1.mono H0.out.2.size)); clear hb1 q0 q1 q2 q3 q4 q5))
  refine ret_tmp3 (s := 8) (s2 := 9) (s3 := 10) rfl rfl rfl rfl rfl ?_
  exact ⟨rfl, H1.out⟩
set_option maxRecDepth 100000 in
set_option maxHeartbeats 1600000 in
theorem sfindOf_arg (g : Nat) (ep : Int) (am : Option Addr) (cm : Nat) (l : List Int) (v : Int) (ps : List Pl) (s : Int) (from_ : Int) (r : Rq) (hb : r.b < 18446744073709551616) (w : World) (h : SlA w g ep am cm l v ps) (hl : 0 < l.length) (hr : rqE r ≠ 0) : Calls Try.prog 49 #[.pointer (some ⟨g, 0, none⟩), .int .i64 from_, .int .i64 s, .agg #[.int .i64 r.c, .int .i64 r.st, .int .i64 r.k, .string r.key, .float .f64 r.b, .int .i64 r.id]] w fun e w' => e = .returned (.tuple #[.pointer none, .string ⟨#[]⟩, .int .i64 1]) ∧ Below w.heap.size w w' := by
  have H0 : Hid (RqAt (w.alloc (.cells #[.int .i64 r.c, .int .i64 r.st, .int .i64 r.k, .string r.key, .float .f64 r.b, .int .i64 r.id] 43)) w.heap.size r ∧ Below w.heap.size w (w.alloc (.cells #[.int .i64 r.c, .int .i64 r.st, .int .i64 r.k, .string r.key, .float .f64 r.b, .int .i64 r.id] 43))) := hid ⟨heap_alloc_last w _, (Below.refl _ _).alloc (Nat.le_refl _) _⟩
  obtain ⟨⟨q0, q1⟩, q2, q3, q4, q5⟩ := H0.out.1.cells
  have HF : Hid (∀ u : World, Below w.heap.size w u → Calls Try.prog 47 #[.pointer (some ⟨g, 0, none⟩), .int .i64 s, .agg #[.int .i64 r.c, .int .i64 r.st, .int .i64 r.k, .string r.key, .float .f64 r.b, .int .i64 r.id]] u fun e w' => e = .returned (.tuple #[.pointer none, .string ⟨#[]⟩, .int .i64 1]) ∧ Below u.heap.size u w') := hid (fun u hu => sfind_arg g ep am cm l v ps s r hb hr u (h.keep hu) hl)
  clear hb h hl hr
  go_enter Try.func49, Try.ntmps49
  go_wp2_with (first | (go_at_call 47; go_must (refine (HF.out _ H0.out.2).mono ?_); rintro e w1 ⟨rfl, hb1⟩; have H1 := hid (H0.out.2.trans (hb1.mono H0.out.2.size)); clear hb1 q0 q1 q2 q3 q4 q5))
  refine ret_tmp3 (s := 8) (s2 := 9) (s3 := 10) rfl rfl rfl rfl rfl ?_
  exact ⟨rfl, H1.out⟩
set_option maxRecDepth 100000 in
set_option maxHeartbeats 1600000 in
theorem sfindOf_slot (g : Nat) (ep : Int) (am : Option Addr) (cm : Nat) (l : List Int) (v : Int) (ps : List Pl) (s : Int) (from_ : Int) (r : Rq) (hb : r.b < 18446744073709551616) (w : World) (h : SlA w g ep am cm l v ps) (hl : 0 < l.length) (hr : rqE r = 0) (he : 0 ≤ ep ∧ ep ≤ 60) (hs : s ≤ 4 * ep ∨ 4 * ep + 4 < s) : Calls Try.prog 49 #[.pointer (some ⟨g, 0, none⟩), .int .i64 from_, .int .i64 s, .agg #[.int .i64 r.c, .int .i64 r.st, .int .i64 r.k, .string r.key, .float .f64 r.b, .int .i64 r.id]] w fun e w' => e = .returned (.tuple #[.pointer none, .string ⟨#[]⟩, .int .i64 14]) ∧ Below w.heap.size w w' := by
  have H0 : Hid (RqAt (w.alloc (.cells #[.int .i64 r.c, .int .i64 r.st, .int .i64 r.k, .string r.key, .float .f64 r.b, .int .i64 r.id] 43)) w.heap.size r ∧ Below w.heap.size w (w.alloc (.cells #[.int .i64 r.c, .int .i64 r.st, .int .i64 r.k, .string r.key, .float .f64 r.b, .int .i64 r.id] 43))) := hid ⟨heap_alloc_last w _, (Below.refl _ _).alloc (Nat.le_refl _) _⟩
  obtain ⟨⟨q0, q1⟩, q2, q3, q4, q5⟩ := H0.out.1.cells
  have HF : Hid (∀ u : World, Below w.heap.size w u → Calls Try.prog 47 #[.pointer (some ⟨g, 0, none⟩), .int .i64 s, .agg #[.int .i64 r.c, .int .i64 r.st, .int .i64 r.k, .string r.key, .float .f64 r.b, .int .i64 r.id]] u fun e w' => e = .returned (.tuple #[.pointer none, .string ⟨#[]⟩, .int .i64 14]) ∧ Below u.heap.size u w') := hid (fun u hu => sfind_slot g ep am cm l v ps s r hb hr u (h.keep hu) hl he hs)
  clear hb h hl hr he hs
  go_enter Try.func49, Try.ntmps49
  go_wp2_with (first | (go_at_call 47; go_must (refine (HF.out _ H0.out.2).mono ?_); rintro e w1 ⟨rfl, hb1⟩; have H1 := hid (H0.out.2.trans (hb1.mono H0.out.2.size)); clear hb1 q0 q1 q2 q3 q4 q5))
  refine ret_tmp3 (s := 8) (s2 := 9) (s3 := 10) rfl rfl rfl rfl rfl ?_
  exact ⟨rfl, H1.out⟩
set_option maxRecDepth 100000 in
set_option maxHeartbeats 1600000 in
theorem sfindOf_absent (g : Nat) (ep : Int) (am : Option Addr) (cm : Nat) (l : List Int) (v : Int) (ps : List Pl) (i : Nat) (from_ : Int) (r : Rq) (hb : r.b < 18446744073709551616) (w : World) (h : SlA w g ep am cm l v ps) (hl : 0 < l.length) (hlm : l.length ≤ maxLen) (hr : rqE r = 0) (he : 0 ≤ ep ∧ ep ≤ 60) (hi : i < 4) (hh : hasM l from_ = false) : Calls Try.prog 49 #[.pointer (some ⟨g, 0, none⟩), .int .i64 from_, .int .i64 (4 * ep + 1 + (i : Int)), .agg #[.int .i64 r.c, .int .i64 r.st, .int .i64 r.k, .string r.key, .float .f64 r.b, .int .i64 r.id]] w fun e w' => e = .returned (.tuple #[.pointer none, .string ⟨#[]⟩, .int .i64 8]) ∧ Below w.heap.size w w' := by
  have H0 : Hid (RqAt (w.alloc (.cells #[.int .i64 r.c, .int .i64 r.st, .int .i64 r.k, .string r.key, .float .f64 r.b, .int .i64 r.id] 43)) w.heap.size r ∧ Below w.heap.size w (w.alloc (.cells #[.int .i64 r.c, .int .i64 r.st, .int .i64 r.k, .string r.key, .float .f64 r.b, .int .i64 r.id] 43))) := hid ⟨heap_alloc_last w _, (Below.refl _ _).alloc (Nat.le_refl _) _⟩
  obtain ⟨⟨q0, q1⟩, q2, q3, q4, q5⟩ := H0.out.1.cells
  have HF : Hid (∀ u : World, Below w.heap.size w u → Calls Try.prog 47 #[.pointer (some ⟨g, 0, none⟩), .int .i64 (4 * ep + 1 + (i : Int)), .agg #[.int .i64 r.c, .int .i64 r.st, .int .i64 r.k, .string r.key, .float .f64 r.b, .int .i64 r.id]] u fun e w' => e = .returned (.tuple #[.pointer (some ⟨g, 3 + i * 43, none⟩), .string (rqT r), .int .i64 0]) ∧ Below u.heap.size u w') := hid (fun u hu => sfind_yes g ep am cm l v ps i r hb hr u (h.keep hu) hl he hi)
  have HH : Hid (∀ u : World, Below w.heap.size w u → Calls Try.prog 40 #[.agg #[.int .i64 ep, .slice am l.length cm], .int .i64 from_] u fun e w' => e = .returned (.bool false) ∧ Below u.heap.size u w') := hid (fun u hu => by have := chas_any ep am l.length cm l rfl hlm from_ u (h.mem.keep hu (Nat.le_refl _)); rw [hh] at this; exact this)
  have HL : Hid (∀ u : World, Below w.heap.size w u → SlA u g ep am cm l v ps) := hid (fun u hu => h.keep hu)
  clear hb h hl hr he hi hh hlm
  generalize 4 * ep + 1 + (i : Int) = s at HF ⊢
  go_enter Try.func49, Try.ntmps49
  go_wp2_with (first | (go_at_call 47; go_must (refine (HF.out _ H0.out.2).mono ?_); rintro e w1 ⟨rfl, hb1⟩; have H1 := hid (H0.out.2.trans (hb1.mono H0.out.2.size)); clear hb1 q0 q1 q2 q3 q4 q5; have c0 := (HL.out _ H1.out).c0; have c1 := (HL.out _ H1.out).c1) | (go_at_call 40; go_must (refine (HH.out _ H1.out).mono ?_); rintro e w2 ⟨rfl, hb2⟩; have H2 := hid (H1.out.trans (hb2.mono H1.out.size)); clear hb2))
  refine ret_tmp3 (s := 8) (s2 := 9) (s3 := 10) rfl rfl rfl rfl rfl ?_
  exact ⟨rfl, H2.out⟩
set_option maxRecDepth 100000 in
set_option maxHeartbeats 1600000 in
theorem sfindOf_yes (g : Nat) (ep : Int) (am : Option Addr) (cm : Nat) (l : List Int) (v : Int) (ps : List Pl) (i : Nat) (from_ : Int) (r : Rq) (hb : r.b < 18446744073709551616) (w : World) (h : SlA w g ep am cm l v ps) (hl : 0 < l.length) (hlm : l.length ≤ maxLen) (hr : rqE r = 0) (he : 0 ≤ ep ∧ ep ≤ 60) (hi : i < 4) (hh : hasM l from_ = true) : Calls Try.prog 49 #[.pointer (some ⟨g, 0, none⟩), .int .i64 from_, .int .i64 (4 * ep + 1 + (i : Int)), .agg #[.int .i64 r.c, .int .i64 r.st, .int .i64 r.k, .string r.key, .float .f64 r.b, .int .i64 r.id]] w fun e w' => e = .returned (.tuple #[.pointer (some ⟨g, 3 + i * 43, none⟩), .string (rqT r), .int .i64 0]) ∧ Below w.heap.size w w' := by
  have H0 : Hid (RqAt (w.alloc (.cells #[.int .i64 r.c, .int .i64 r.st, .int .i64 r.k, .string r.key, .float .f64 r.b, .int .i64 r.id] 43)) w.heap.size r ∧ Below w.heap.size w (w.alloc (.cells #[.int .i64 r.c, .int .i64 r.st, .int .i64 r.k, .string r.key, .float .f64 r.b, .int .i64 r.id] 43))) := hid ⟨heap_alloc_last w _, (Below.refl _ _).alloc (Nat.le_refl _) _⟩
  obtain ⟨⟨q0, q1⟩, q2, q3, q4, q5⟩ := H0.out.1.cells
  have HF : Hid (∀ u : World, Below w.heap.size w u → Calls Try.prog 47 #[.pointer (some ⟨g, 0, none⟩), .int .i64 (4 * ep + 1 + (i : Int)), .agg #[.int .i64 r.c, .int .i64 r.st, .int .i64 r.k, .string r.key, .float .f64 r.b, .int .i64 r.id]] u fun e w' => e = .returned (.tuple #[.pointer (some ⟨g, 3 + i * 43, none⟩), .string (rqT r), .int .i64 0]) ∧ Below u.heap.size u w') := hid (fun u hu => sfind_yes g ep am cm l v ps i r hb hr u (h.keep hu) hl he hi)
  have HH : Hid (∀ u : World, Below w.heap.size w u → Calls Try.prog 40 #[.agg #[.int .i64 ep, .slice am l.length cm], .int .i64 from_] u fun e w' => e = .returned (.bool true) ∧ Below u.heap.size u w') := hid (fun u hu => by have := chas_any ep am l.length cm l rfl hlm from_ u (h.mem.keep hu (Nat.le_refl _)); rw [hh] at this; exact this)
  have HL : Hid (∀ u : World, Below w.heap.size w u → SlA u g ep am cm l v ps) := hid (fun u hu => h.keep hu)
  clear hb h hl hr he hi hh hlm
  generalize 4 * ep + 1 + (i : Int) = s at HF ⊢
  go_enter Try.func49, Try.ntmps49
  go_wp2_with (first | (go_at_call 47; go_must (refine (HF.out _ H0.out.2).mono ?_); rintro e w1 ⟨rfl, hb1⟩; have H1 := hid (H0.out.2.trans (hb1.mono H0.out.2.size)); clear hb1 q0 q1 q2 q3 q4 q5; have c0 := (HL.out _ H1.out).c0; have c1 := (HL.out _ H1.out).c1) | (go_at_call 40; go_must (refine (HH.out _ H1.out).mono ?_); rintro e w2 ⟨rfl, hb2⟩; have H2 := hid (H1.out.trans (hb2.mono H1.out.size)); clear hb2))
  refine ret_tmp3 (s := 8) (s2 := 9) (s3 := 10) rfl rfl rfl rfl rfl ?_
  exact ⟨rfl, H2.out⟩
end Go.Proofs.Ytohhlolmojeomaa
