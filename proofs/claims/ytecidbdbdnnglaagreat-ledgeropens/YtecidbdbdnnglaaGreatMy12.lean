/- Texts laid together: LpY LqA LqB LqC. -/
import Derived.Test.YtecidbdbdnnglaaGreatMx6
import Derived.Test.YtecidbdbdnnglaaGreatMy2
import Derived.Sort.Walk0
import Derived.Test.YtecidbdbdnnglaaGreatMy11
/- The program's ledger out of bytes: isWithin, isRight, readMembers, readKeys. -/
namespace Go.Proofs.YtecidbdbdnnglaaGreat
open Go.RowKit

set_option maxRecDepth 100000 in
theorem gisWithin_any (e : Nat) (he : e ≤ 900) (d : Nat) (w : World) : Calls Tryz.prog 43 #[.int .i64 (e : Int), .int .i64 (d : Int)] w fun r w' => r = .returned (.bool (decide (4 * e ≤ d) && decide (d ≤ 4 * (e + 1)))) ∧ Below w.heap.size w w' := by
  have h1 : IntKind.i64.wrap ((e : Int) - 1) = (e : Int) - 1 := by simp [IntKind.wrap, IntKind.bits, IntKind.signed]; omega
  have c1 := fun u => gendOf_any ((e : Int) - 1) (by omega) (by omega) u
  have c2 := fun u => gendOf_any (e : Int) (by omega) (by omega) u
  rw [show 4 * ((e : Int) - 1 + 1) = ((4 * e : Nat) : Int) by omega] at c1
  rw [show 4 * ((e : Int) + 1) = ((4 * (e + 1) : Nat) : Int) by omega] at c2
  have C1 := hid c1
  have C2 := hid c2
  clear c1 c2
  by_cases g1 : 4 * e ≤ d
  · have i1 : ((4 * e : Nat) : Int) ≤ (d : Int) := by omega
    have i2 : decide (((4 * e : Nat) : Int) ≤ (d : Int)) = true := decide_eq_true i1
    have E : Hid ((decide (4 * e ≤ d) && decide (d ≤ 4 * (e + 1))) = decide ((d : Int) ≤ ((4 * (e + 1) : Nat) : Int))) := hid (by
      rw [decide_eq_true g1, Bool.true_and]
      by_cases g2 : d ≤ 4 * (e + 1)
      · rw [decide_eq_true g2, decide_eq_true (by omega)]
      · rw [decide_eq_false g2, decide_eq_false (by omega)])
    rw [E.out]
    generalize ((4 * e : Nat) : Int) = A at C1 i1 i2
    generalize ((4 * (e + 1) : Nat) : Int) = B at C2 ⊢
    clear E g1 he
    go_enter Tryz.func43, Tryz.ntmps43
    go_wp2_with (first
      | (go_at_call 71; have := T1; refine (C2.out _).mono ?_; rintro r w2 ⟨rfl, rfl⟩)
      | (go_at_call 71; refine (C1.out _).mono ?_; rintro r w1 ⟨rfl, rfl⟩; have T1 := hid True.intro))
    go_ret
    exact ⟨rfl, Below.refl _ _⟩
  · have i1 : ¬ (((4 * e : Nat) : Int) ≤ (d : Int)) := by omega
    have i2 : decide (((4 * e : Nat) : Int) ≤ (d : Int)) = false := decide_eq_false i1
    rw [show (decide (4 * e ≤ d) && decide (d ≤ 4 * (e + 1))) = false by rw [decide_eq_false g1]; rfl]
    generalize ((4 * e : Nat) : Int) = A at C1 i1 i2
    clear g1 he C2
    go_enter Tryz.func43, Tryz.ntmps43
    go_wp2_with (go_at_call 71; refine (C1.out _).mono ?_; rintro r w1 ⟨rfl, rfl⟩)
    go_ret
    exact ⟨rfl, Below.refl _ _⟩
def rtB (d : De) : Bool := if d.1 = 0 then decide (d.2.1 = 0) && decide (canW d.2.2 = 0) else decide (d.1 ≤ 1048576)
set_option maxRecDepth 100000 in
set_option maxHeartbeats 1600000 in
theorem gisRight_any (d : De) (w : World) : Calls Tryz.prog 89 #[.agg #[.int .i64 (d.1 : Int), .int .i64 d.2.1, .float .f64 d.2.2]] w fun r w' => r = .returned (.bool (rtB d)) ∧ Below w.heap.size w w' := by
  have H0 : Hid (DdAt (w.alloc (.cells #[.int .i64 (d.1 : Int), .int .i64 d.2.1, .float .f64 d.2.2] 69)) w.heap.size d ∧ Below w.heap.size w (w.alloc (.cells #[.int .i64 (d.1 : Int), .int .i64 d.2.1, .float .f64 d.2.2] 69))) := hid ⟨heap_alloc_last w _, (Below.refl _ _).alloc (Nat.le_refl _) _⟩
  obtain ⟨z0, z1, z2⟩ := H0.out.1.cells
  by_cases h0 : d.1 = 0
  · have z0b := z0.trans (show some (Value.int .i64 (d.1 : Int)) = some (.int .i64 0) by rw [h0]; rfl)
    have hR : rtB d = (decide (d.2.1 = 0) && decide (canW d.2.2 = 0)) := if_pos h0
    rw [hR]
    have HB := hid (fun u => bits_any d.2.2 u)
    clear z0 h0 hR
    by_cases h1 : d.2.1 = 0
    · have z1b := z1.trans (show some (Value.int .i64 d.2.1) = some (.int .i64 0) by rw [h1])
      have hE : Hid ((decide (d.2.1 = 0) && decide (canW d.2.2 = 0)) = decide (((canW d.2.2 : Nat) : Int) = 0)) := hid (by
        rw [decide_eq_true h1, Bool.true_and]
        by_cases h2 : canW d.2.2 = 0
        · rw [decide_eq_true h2, decide_eq_true (by omega)]
        · rw [decide_eq_false h2, decide_eq_false (by omega)])
      rw [hE.out]
      clear z1 h1 hE
      generalize canW d.2.2 = C at HB ⊢
      go_enter Tryz.func89, Tryz.ntmps89
      go_wp2_with (go_at_call 97; refine (HB.out _).mono ?_; rintro e w1 ⟨rfl, rfl⟩)
      go_ret
      refine ⟨?_, H0.out.2⟩
      first | rfl | (apply ret_bool; simp) | (apply ret_bool; cases C <;> simp)
    · rw [show (decide (d.2.1 = 0) && decide (canW d.2.2 = 0)) = false by rw [decide_eq_false h1]; rfl]
      have h1b : (d.2.1 == 0) = false := by simpa using h1
      go_enter Tryz.func89, Tryz.ntmps89
      go_wp2
      go_ret
      exact ⟨by first | rfl | simp_all, H0.out.2⟩
  · have hR : rtB d = decide (d.1 ≤ 1048576) := if_neg h0
    have hE : Hid (decide (d.1 ≤ 1048576) = decide ((d.1 : Int) ≤ 1048576)) := hid (by
      by_cases h2 : d.1 ≤ 1048576
      · rw [decide_eq_true h2, decide_eq_true (by omega)]
      · rw [decide_eq_false h2, decide_eq_false (by omega)])
    rw [hR, hE.out]
    have hi : ¬ ((d.1 : Int) = 0) := by omega
    have h9 : (0 : Int) ≤ (d.1 : Int) := by omega
    clear hR hE h0
    generalize (d.1 : Int) = X at *
    go_enter Tryz.func89, Tryz.ntmps89
    go_wp2
    go_ret
    exact ⟨by first | rfl | simp_all, H0.out.2⟩
end Go.Proofs.YtecidbdbdnnglaaGreat

/- The program's ledger out of bytes: readMembers, readKeys. -/
namespace Go.Proofs.YtecidbdbdnnglaaGreat
open Go.RowKit

theorem kept1 {b : Nat} {w w' : World} (h : Kept b none w w') : Out [b] w w' := ⟨h.os, h.tape, h.output, h.size, fun k hk hn => h.block k hk (fun e => hn (by simp [e])) (by simp)⟩
/-- While members are read: the reader at b, the list's row at g. -/
structure RySt (w0 w : World) (b : Nat) (s : ByteArray) (sh : Bool) (g : Nat) (l : List Int) : Prop where
  rd : RdAt w b s sh
  row : w.heap[g]? = some (.cells (iC l).toArray 3 (0, 0))
  out : Out [b] w0 w
  hg : w0.heap.size ≤ g
  hb : b < w0.heap.size
theorem RySt.kept {w0 w w' : World} {b : Nat} {s s' : ByteArray} {sh sh' : Bool} {g : Nat} {l : List Int} (h : RySt w0 w b s sh g l) (k : Kept b none w w') (hr : RdAt w' b s' sh') : RySt w0 w' b s' sh' g l :=
  ⟨hr, (k.block _ (lt_of_blk h.row) (by have := h.hg; have := h.hb; omega) (by simp)).trans h.row, h.out.trans (kept1 k) (fun _ hm => .inl hm), h.hg, h.hb⟩
theorem RySt.put {w0 w : World} {b : Nat} {s : ByteArray} {sh : Bool} {g : Nat} {l l2 : List Int} (h : RySt w0 w b s sh g l) (j : Nat) (y : Int) (hl : l.set j y = l2) : RySt w0 (w.setCell ⟨g, j, none⟩ (.int .i64 y)) b s sh g l2 := by
  have hne : b ≠ g := by have := h.hg; have := h.hb; omega
  refine ⟨(Below.heap_setCell _ _ _ _ (show b ≠ g from hne)).trans h.rd, ?_, (one_cell w g j _).outB h.out (.inr h.hg), h.hg, h.hb⟩
  refine (blk_set h.row j _).trans ?_
  rw [← hl]
  simp [iC, List.map_set]
theorem RySt.keep {w0 w w' : World} {b : Nat} {s : ByteArray} {sh : Bool} {g : Nat} {l : List Int} (h : RySt w0 w b s sh g l) (hb : Below w.heap.size w w') : RySt w0 w' b s sh g l :=
  ⟨(hb.block _ (lt_of_blk h.rd)).trans h.rd, (hb.block _ (lt_of_blk h.row)).trans h.row, h.out.more hb, h.hg, h.hb⟩
theorem RySt.new {w0 w : World} {b : Nat} {s : ByteArray} {sh : Bool} {g : Nat} {l : List Int} (h : RySt w0 w b s sh g l) : NewI w0.heap.size w (some ⟨g, 0, none⟩) l :=
  ⟨.inr ⟨g, 0, rfl, lt_of_blk h.row, fun j z hj => by rw [Nat.zero_add]; exact cell_at h.row j _ (iC_get l j z hj)⟩, fun x hx => by cases hx; exact ⟨h.hg, _, _, h.row⟩⟩
theorem right_zero (l : List Int) : rightC 0 l = memB l := by rw [rightC, decide_eq_true (by omega)]; rfl
set_option maxRecDepth 100000 in
set_option maxHeartbeats 3200000 in
theorem greadMembers_any (b : Nat) (x : Rd) (w : World) (h : RdAt w b x.s x.sh) :
    Calls Tryz.prog 39 #[.pointer (some ⟨b, 0, none⟩)] w fun e w' => ∃ a1 n c1, e = .returned (.tuple #[.slice a1 n c1, .bool (memB (rdL (x.num 1).s (x.num 1).sh (rN x.s x.sh 1)))]) ∧ n = (rdL (x.num 1).s (x.num 1).sh (rN x.s x.sh 1)).length ∧ NewI w.heap.size w' a1 (rdL (x.num 1).s (x.num 1).sh (rN x.s x.sh 1)) ∧ RdAt w' b (rdS (x.num 1).s (x.num 1).sh (rN x.s x.sh 1)).1 (rdS (x.num 1).s (x.num 1).sh (rN x.s x.sh 1)).2 ∧ Out [b] w w' := by
  have hbl := lt_of_blk h
  obtain ⟨N, eN⟩ : ∃ N, N = rN x.s x.sh 1 := ⟨_, rfl⟩
  obtain ⟨S, eS⟩ : ∃ S, S = (x.num 1).s := ⟨_, rfl⟩
  obtain ⟨sh, esh⟩ : ∃ sh, sh = (x.num 1).sh := ⟨_, rfl⟩
  have hN1 : N < 256 := by have := rN_lt x.s x.sh 1; rw [eN]; simpa using this
  have HA : Hid (∀ u : World, RdAt u b x.s x.sh → Calls Tryz.prog 36 #[.pointer (some ⟨b, 0, none⟩)] u fun e w' => e = .returned (.int .i64 (N : Int)) ∧ RdAt w' b S sh ∧ Kept b none u w') := hid (fun u hu => by rw [eN, eS, esh]; exact rbyte_any b x.s x.sh u hu)
  rw [← eN, ← eS, ← esh]
  have HMk : Hid (∀ u : World, (Instr.makeSlice 22 (.int .i64 (N : Int)) (.int .i64 (N : Int))).run Tryz.prog u = .ok (.slice (some ⟨u.heap.size, 0, none⟩) N N) (u.alloc (.cells (iC (List.replicate N 0)).toArray 3))) := hid (fun u => run_makeI N N (by omega) (by omega) u)
  have hN2 : (N : Int) < 256 := by omega
  have HB := hid (And.intro h hbl)
  have HRc : Hid (∀ u : World, ∀ a1 : Option Addr, IntsIn u a1 (rdL S sh N) → Calls Tryz.prog 20 #[.agg #[.int .i64 0, .slice a1 N N]] u fun e w' => e = .returned (.bool (memB (rdL S sh N))) ∧ Below u.heap.size u w') := hid (fun u a1 hu => by rw [← right_zero]; exact cright_any 0 a1 N N (rdL S sh N) (rdL_len _ _ _) (by unfold maxLen; omega) u hu)
  generalize memB (rdL S sh N) = M at HRc ⊢
  clear eN eS esh h hbl hN1
  go_enter Tryz.func39, Tryz.ntmps39
  go_wp2_with (first
    | (go_at_call 36; refine (HA.out _ HB.out.1).mono ?_; rintro e w1 ⟨rfl, h1, k1⟩; have H1 := hid (And.intro h1 k1); clear h1 k1)
    | rw [HMk.out])
  obtain ⟨g, eg⟩ : ∃ g, g = w1.heap.size := ⟨_, rfl⟩
  have H2 : Hid (RySt w (w1.alloc (.cells (iC (List.replicate N 0)).toArray 3)) b S sh g (rdP S sh N 0)) := hid ⟨(Below.heap_alloc _ _ _ (lt_of_blk H1.out.1)).trans H1.out.1, by rw [eg]; exact heap_alloc_last w1 _, (kept1 H1.out.2).alloc _, by rw [eg]; exact H1.out.2.size, HB.out.2⟩
  rw [← eg]
  obtain ⟨w2, e2⟩ : ∃ u, u = w1.alloc (.cells (iC (List.replicate N 0)).toArray 3) := ⟨_, rfl⟩
  rw [← e2] at H2
  try rw [← e2]
  clear eg e2 H1
  go_loopw [11] (fun i wr => ∃ j : Nat, j ≤ N ∧ i = .int .i64 (j : Int) ∧ RySt w wr b (rdS S sh j).1 (rdS S sh j).2 g (rdP S sh N j))
    (fun i _ => ((N : Int) - intOf i).toNat)
  case atStart => exact ⟨0, by omega, rfl, H2.out⟩
  case round =>
    obtain ⟨j, hj, rfl, hO⟩ := hrel
    have hj0 : (0 : Int) ≤ (j : Int) := Int.natCast_nonneg _
    have HO := hid hO
    clear hO H2
    by_cases hjn : j = N
    · have hj1 : ¬ ((j : Int) < (N : Int)) := by omega
      have hO := HO.out
      rw [hjn, rdP_all] at hO
      have HF := hid hO
      have HI := hid hO.new.ints
      clear hj hjn hO HO
      go_wp2_with (go_at_call 20; refine (HRc.out _ _ HI.out).mono ?_; rintro e w4 ⟨rfl, hb4⟩; have H4 := hid (HF.out.keep hb4); clear hb4)
      go_ret2
      exact ⟨_, N, N, rfl, (rdL_len _ _ _).symm, H4.out.new, H4.out.rd, H4.out.out⟩
    · have hj1 : (j : Int) < (N : Int) := by omega
      have hjN : j < N := by omega
      have HC : Hid ((iC (rdP S sh N j))[j]? = some (.int .i64 ((rdP S sh N j).getD j 0))) := hid (iC_get _ j _ (by have := rdP_len S sh N j hj; simp [this, hjN]))
      have HR : Hid (∀ u : World, RdAt u b (rdS S sh j).1 (rdS S sh j).2 → Calls Tryz.prog 36 #[.pointer (some ⟨b, 0, none⟩)] u fun e w' => e = .returned (.int .i64 ((rN (rdS S sh j).1 (rdS S sh j).2 1 : Nat) : Int)) ∧ RdAt w' b (rdS S sh (j + 1)).1 (rdS S sh (j + 1)).2 ∧ Kept b none u w') := hid (fun u hu => rbyte_any b _ _ u hu)
      have HP := hid (rdP_set S sh N j hjN)
      generalize rN (rdS S sh j).1 (rdS S sh j).2 1 = y at HR HP
      have HJ := hid (And.intro hj hjn)
      clear hj hjn hjN
      go_wp2_with (go_at_call 36; refine (HR.out _ HO.out.rd).mono ?_; rintro e w4 ⟨rfl, h4, k4⟩; have H4 := hid (HO.out.kept k4 h4); clear h4 k4; have hc4 := cell_at H4.out.row j _ HC.out; have hf4 := free_at H4.out.row j)
      go_roundw
      case rel => exact ⟨j + 1, by have := HJ.out; omega, by go_num, H4.out.put j _ HP.out⟩
      case measure => simp [intOf]; omega
/-- Keys as they are read. -/
def keyR (y : Rd) (i : Nat) : ByteArray := tT (rdIs y i).s (rdIs y i).sh
def bitR (y : Rd) (i : Nat) : Nat := rN (rdIs y i).txt.s (rdIs y i).txt.sh 8
def preR (y : Rd) : Nat → ByteArray
  | 0 => kEm
  | i + 1 => keyR y i
def okR (y : Rd) (i : Nat) : Bool := (ltK (preR y i) (keyR y i) && decide ((keyR y i).size ≤ 16)) && (canW (bitR y i) == bitR y i)
theorem rdIl_get (y : Rd) : ∀ N i, i < N → (rdIl y N).getD i (kEm, 0) = (keyR y i, bitR y i)
  | 0, i, h => by omega
  | N + 1, i, h => by
    rw [rdIl]
    by_cases e : i = N
    · rw [e]
      simp [List.getD, rdIl_len]
      exact ⟨rfl, rfl⟩
    · have := rdIl_get y N i (by omega)
      rw [← this]
      have hi : i < (rdIl y N).length := by rw [rdIl_len]; omega
      simp [List.getD, List.getElem?_append_left hi]
theorem okI_R (y : Rd) (N i : Nat) (h : i < N) : okI (rdIl y N) i = okR y i := by
  have hp : prevK (rdIl y N) i = preR y i := by
    cases i with
    | zero => rfl
    | succ i => rw [prevK, rdIl_get y N i (by omega)]; rfl
  rw [okI, okR, hp, rdIl_get y N i h]
theorem rise_R (y : Rd) (N : Nat) (h : ∀ i, i < N → okR y i = true) : Rise (rdIl y N) := by
  refine rise_of (fun i hi => ?_)
  rw [rdIl_len] at hi
  have := h (i + 1) hi
  simp only [okR, preR, Bool.and_eq_true] at this
  rw [rdIl_get y N i (by omega), rdIl_get y N (i + 1) hi]
  exact this.1.1
theorem put_next (y : Rd) (j : Nat) (h : ∀ i, i < j + 1 → okR y i = true) : putK (keyR y j) (bitR y j) (rdIl y j) = rdIl y (j + 1) := by
  have hr := rise_R y (j + 1) h
  rw [show rdIl y (j + 1) = rdIl y j ++ [(keyR y j, bitR y j)] from rfl] at hr ⊢
  have := put_low (k := keyR y j) (b := bitR y j) (L := rdIl y j) (M := []) (fun z hz => (List.pairwise_append.1 hr).2.2 z hz (keyR y j, bitR y j) (by simp))
  rw [List.append_nil] at this
  rw [this]
  rfl
theorem leq_text (k p : ByteArray) : (Op.bytesLess k.toList p.toList || (k.toList == p.toList)) = !ltK p k := by
  rw [bytesLess_eq, ByteArray.toList_eq, ByteArray.toList_eq]
  unfold ltK
  by_cases h1 : p.data.toList < k.data.toList
  · rw [decide_eq_true h1, decide_eq_false (fun h2 => List.lt_irrefl _ (List.lt_trans h1 h2))]
    simp only [Bool.false_or, Bool.not_true, beq_eq_false_iff_ne]
    exact fun e => by rw [e] at h1; exact List.lt_irrefl _ h1
  · rw [decide_eq_false h1]
    rw [List.not_lt] at h1
    rcases List.le_iff_lt_or_eq.1 h1 with h2 | h2
    · rw [decide_eq_true h2]; rfl
    · rw [h2]; simp
/-- While keys are read: the reader at b, the map at m. -/
structure RkSt (w0 w : World) (b : Nat) (x : Rd) (m : Nat) (L : List Kb) : Prop where
  rd : RdAt w b x.s x.sh
  km : KmAt w m L
  out : Out [b] w0 w
  hm : w0.heap.size ≤ m
  hb : b < w0.heap.size
theorem RkSt.kept {w0 w w' : World} {b : Nat} {x y : Rd} {m : Nat} {L : List Kb} (h : RkSt w0 w b x m L) (k : Kept b none w w') (hr : RdAt w' b y.s y.sh) : RkSt w0 w' b y m L :=
  ⟨hr, h.km.keep (k.block _ h.km.lt (by have := h.hm; have := h.hb; omega) (by simp)), h.out.trans (kept1 k) (fun _ hm => .inl hm), h.hm, h.hb⟩
theorem RkSt.put {w0 w w' : World} {b : Nat} {x : Rd} {m : Nat} {L L' : List Kb} (h : RkSt w0 w b x m L) (hk : KmAt w' m L') (hg : w.grownBy w' (some m)) : RkSt w0 w' b x m L' :=
  ⟨(hg.block b (lt_of_blk h.rd) (fun e => by cases e; have := h.hm; have := h.hb; omega)).trans h.rd, hk, h.out.then hg (.inr h.hm), h.hm, h.hb⟩
theorem wl_put_key {o : Oper} {a : Act} {w : World} {ops : Array Oper} {rest : List Oper} {QQ : Exit → Act → World → Prop} (hgd : o.guard = none) (mo ko vo : Operand) (ho : o.op = .mapUpdate 67 mo ko vo) (m : Nat) (L : List Kb) (hm : a.eval mo = .map (some m)) (hK : KmAt w m L) (hr : Rise L) (hf : L.length ≤ 1000) (k : ByteArray) (hk : k.size ≤ maxLen) (hko : a.eval ko = .string k) (b : Nat) (hvo : a.eval vo = .float .f64 b)
    (h : ∀ w', Hid (KmAt w' m (putK k b L) ∧ w.grownBy w' (some m)) → wpList Tryz.prog ops QQ rest (a.put o.dst undef) w') : wpList Tryz.prog ops QQ (o :: rest) a w :=
  wpList_plain hgd fun _ hK' => owp_put_key mo ko vo ho m L hm hK hr hf k hk hko b hvo (fun w' h' => hK' _ _ (h w' h'))
theorem tT_size (s : ByteArray) (sh : Bool) : (tT s sh).size ≤ 65535 := by
  unfold tT
  split
  · rename_i h
    have hv := val_lt (s.data.toList.take 2)
    have hl : (s.data.toList.take 2).length ≤ 2 := by rw [List.length_take]; omega
    have hp : 256 ^ (s.data.toList.take 2).length ≤ 256 ^ 2 := Nat.pow_le_pow_right (by omega) hl
    rw [ByteArray.size_extract]
    omega
  · exact Nat.zero_le _
set_option maxRecDepth 100000 in
set_option maxHeartbeats 6400000 in
theorem greadKeys_yes (b : Nat) (x : Rd) (w : World) (h : RdAt w b x.s x.sh) (hB : keysB (rdIl (x.num 1) (rN x.s x.sh 1)) = true) :
    Calls Tryz.prog 41 #[.pointer (some ⟨b, 0, none⟩)] w fun e w' => ∃ m, e = .returned (.tuple #[.map (some m), .bool true]) ∧ KmAt w' m (rdIl (x.num 1) (rN x.s x.sh 1)) ∧ w.heap.size ≤ m ∧ RdAt w' b (rdIs (x.num 1) (rN x.s x.sh 1)).s (rdIs (x.num 1) (rN x.s x.sh 1)).sh ∧ Out [b] w w' := by
  have hbl := lt_of_blk h
  obtain ⟨N, eN⟩ : ∃ N, N = rN x.s x.sh 1 := ⟨_, rfl⟩
  obtain ⟨y, ey⟩ : ∃ y, y = x.num 1 := ⟨_, rfl⟩
  have hN1 : N < 256 := by have := rN_lt x.s x.sh 1; rw [eN]; simpa using this
  have HA : Hid (∀ u : World, RdAt u b x.s x.sh → Calls Tryz.prog 36 #[.pointer (some ⟨b, 0, none⟩)] u fun e w' => e = .returned (.int .i64 (N : Int)) ∧ RdAt w' b y.s y.sh ∧ Kept b none u w') := hid (fun u hu => by rw [eN, ey]; exact rbyte_any b x.s x.sh u hu)
  rw [← eN, ← ey] at hB
  rw [← eN, ← ey]
  have hmm := @run_makeMap Tryz.prog
  have HB := hid (And.intro h hbl)
  rw [keysB, rdIl_len] at hB
  have hB2 := Bool.and_eq_true_iff.1 hB
  have h16 : N ≤ 16 := of_decide_eq_true hB2.1
  have HOk : Hid (∀ i, i < N → okR y i = true) := hid (fun i hi => by rw [← okI_R y N i hi]; exact okIto_at _ _ hB2.2 i hi)
  have h16i : ¬ ((16 : Int) < (N : Int)) := by omega
  clear eN ey h hbl hN1 hB hB2
  have hN2 : (N : Int) ≤ 16 := by omega
  go_enter Tryz.func41, Tryz.ntmps41
  go_wp2_with (go_at_call 36; refine (HA.out _ HB.out.1).mono ?_; rintro e w1 ⟨rfl, h1, k1⟩; have H1 := hid (And.intro h1 k1); clear h1 k1)
  obtain ⟨m, em⟩ : ∃ m, m = w1.heap.size := ⟨_, rfl⟩
  have H2 : Hid (RkSt w (w1.alloc (.map #[] 0)) b y m []) := hid ⟨(Below.heap_alloc _ _ _ (lt_of_blk H1.out.1)).trans H1.out.1, by rw [em]; exact KmAt.made w1, (kept1 H1.out.2).alloc _, by rw [em]; exact H1.out.2.size, HB.out.2⟩
  rw [← em]
  obtain ⟨w2, e2⟩ : ∃ u, u = w1.alloc (.map #[] 0) := ⟨_, rfl⟩
  rw [← e2] at H2
  try rw [← e2]
  clear em e2 H1 hmm
  go_loopw [16, 6] (fun i pv wr => ∃ j : Nat, j ≤ N ∧ i = .int .i64 (j : Int) ∧ pv = .string (preR y j) ∧ RkSt w wr b (rdIs y j) m (rdIl y j) ∧ ∀ i, i < j → okR y i = true)
    (fun i _ _ => ((N : Int) - intOf i).toNat)
  case atStart => exact ⟨0, by omega, rfl, rfl, H2.out, fun i hi => by omega⟩
  case round =>
    obtain ⟨j, hj, rfl, rfl, hO, hup⟩ := hrel
    have hj0 : (0 : Int) ≤ (j : Int) := Int.natCast_nonneg _
    have HO := hid (And.intro hO hup)
    clear hO hup H2
    by_cases hjn : j = N
    · have hj1 : ¬ ((j : Int) < (N : Int)) := by omega
      have HF : Hid (RkSt w wr b (rdIs y N) m (rdIl y N)) := hid (hjn ▸ HO.out.1)
      clear hj hjn HO
      go_wp2
      go_ret2
      exact ⟨m, rfl, HF.out.km, HF.out.hm, HF.out.rd, HF.out.out⟩
    · have hj1 : (j : Int) < (N : Int) := by omega
      have HT : Hid (∀ u : World, RdAt u b (rdIs y j).s (rdIs y j).sh → Calls Tryz.prog 38 #[.pointer (some ⟨b, 0, none⟩)] u fun e w' => e = .returned (.string (keyR y j)) ∧ RdAt w' b (rdIs y j).txt.s (rdIs y j).txt.sh ∧ Kept b none u w') := hid (fun u hu => rtext_any b _ _ u hu)
      have HBi : Hid (∀ u : World, RdAt u b (rdIs y j).txt.s (rdIs y j).txt.sh → Calls Tryz.prog 87 #[.pointer (some ⟨b, 0, none⟩)] u fun e w' => e = .returned (.int .u64 ((bitR y j : Nat) : Int)) ∧ RdAt w' b (rdIs y (j + 1)).s (rdIs y (j + 1)).sh ∧ Kept b none u w') := hid (fun u hu => rbits_any b _ _ u hu)
      have hle := leq_text (keyR y j) (preR y j)
      have HKS : Hid ((keyR y j).size ≤ 65535) := hid (tT_size _ _)
      have hok : okR y j = true := HOk.out j (by omega)
      have hup1 : ∀ i, i < j + 1 → okR y i = true := fun i hi => by
        by_cases e : i = j
        · rw [e]; exact hok
        · exact HO.out.2 i (by omega)
      have hok2 := hok
      simp only [okR, Bool.and_eq_true, decide_eq_true_eq] at hok2
      rw [hok2.1.1, Bool.not_true] at hle
      have hs16 : ¬ ((16 : Int) < ((keyR y j).size : Int)) := by omega
      have hs17 : ¬ (16 < (keyR y j).size) := by omega
      have HP : Hid (putK (keyR y j) (bitR y j) (rdIl y j) = rdIl y (j + 1) ∧ Rise (rdIl y j) ∧ (keyR y j).size ≤ 16 ∧ (∀ i, i < j + 1 → okR y i = true)) := hid ⟨put_next y j hup1, rise_R y j (fun i hi => HO.out.2 i hi), hok2.1.2, hup1⟩
      have HFr : Hid (∀ u : World, Calls Tryz.prog 86 #[.int .u64 ((bitR y j : Nat) : Int)] u fun e w' => e = .returned (.tuple #[.float .f64 (bitR y j), .bool true]) ∧ w' = u) := hid (fun u => by have := from_any (bitR y j) u; rw [(fromW_ok hok2.2).1, hok2.2] at this; exact this)
      have HPr := hid (show preR y (j + 1) = keyR y j from rfl)
      generalize keyR y j = k at hle HT hs16 hs17 HP HPr HKS
      generalize bitR y j = bt at HBi HFr HP
      have HJ := hid (And.intro hj hjn)
      clear hup1 hok2 hok hj hjn
      go_wp2_with (first
        | (have := H5; refine wl_put_key rfl _ _ _ rfl m _ rfl H5.out.km HP.out.2.1 (by rw [rdIl_len]; have := HJ.out; omega) k (by have := HP.out.2.2.1; unfold maxLen; omega) rfl bt rfl ?_; intro w7 Hq; have H7 := hid (H5.out.put Hq.out.1 Hq.out.2); clear Hq)
        | (go_at_call 86; refine (HFr.out _).mono ?_; rintro e w6 ⟨rfl, hw6⟩; replace hw6 := hw6.symm; subst hw6)
        | (go_at_call 87; have := H4; refine (HBi.out _ H4.out.rd).mono ?_; rintro e w5 ⟨rfl, h5, k5⟩; have H5 := hid (H4.out.kept k5 h5); clear h5 k5)
        | (go_at_call 38; refine (HT.out _ HO.out.1.rd).mono ?_; rintro e w4 ⟨rfl, h4, k4⟩; have H4 := hid (HO.out.1.kept k4 h4); clear h4 k4))
      go_roundw
      case rel => exact ⟨j + 1, by have := HJ.out; omega, by go_num, by rw [HPr.out], by have := H7.out; rw [HP.out.1] at this; exact this, HP.out.2.2.2⟩
      case measure => simp [intOf]; omega
set_option maxRecDepth 100000 in
set_option maxHeartbeats 6400000 in
theorem greadKeys_no (b : Nat) (x : Rd) (w : World) (h : RdAt w b x.s x.sh) (hB : keysB (rdIl (x.num 1) (rN x.s x.sh 1)) = false) :
    Calls Tryz.prog 41 #[.pointer (some ⟨b, 0, none⟩)] w fun e w' => e = .returned (.tuple #[.map none, .bool false]) ∧ (∃ z : Rd, RdAt w' b z.s z.sh) ∧ Out [b] w w' := by
  have hbl := lt_of_blk h
  obtain ⟨N, eN⟩ : ∃ N, N = rN x.s x.sh 1 := ⟨_, rfl⟩
  obtain ⟨y, ey⟩ : ∃ y, y = x.num 1 := ⟨_, rfl⟩
  have hN1 : N < 256 := by have := rN_lt x.s x.sh 1; rw [eN]; simpa using this
  have HA : Hid (∀ u : World, RdAt u b x.s x.sh → Calls Tryz.prog 36 #[.pointer (some ⟨b, 0, none⟩)] u fun e w' => e = .returned (.int .i64 (N : Int)) ∧ RdAt w' b y.s y.sh ∧ Kept b none u w') := hid (fun u hu => by rw [eN, ey]; exact rbyte_any b x.s x.sh u hu)
  rw [← eN, ← ey] at hB
  have hmm := @run_makeMap Tryz.prog
  have HB := hid (And.intro h hbl)
  rw [keysB, rdIl_len] at hB
  by_cases h16 : N ≤ 16
  case neg =>
    have h16i : (16 : Int) < (N : Int) := by omega
    clear eN ey h hbl hN1 hB h16
    go_enter Tryz.func41, Tryz.ntmps41
    go_wp2_with (go_at_call 36; refine (HA.out _ HB.out.1).mono ?_; rintro e w1 ⟨rfl, h1, k1⟩; have H1 := hid (And.intro h1 k1); clear h1 k1)
    go_ret2
    exact ⟨rfl, ⟨y, H1.out.1⟩, kept1 H1.out.2⟩
  have HNo : Hid (∃ i, i < N ∧ okR y i = false) := hid (by
    rw [decide_eq_true h16, Bool.true_and] at hB
    refine Classical.byContradiction (fun hc => ?_)
    have : okIto (rdIl y N) N = true := okIto_all _ _ (fun i hi => by
      rw [okI_R y N i hi]
      cases hk : okR y i
      · exact absurd ⟨i, hi, hk⟩ hc
      · rfl)
    rw [this] at hB
    cases hB)
  have h16i : ¬ ((16 : Int) < (N : Int)) := by omega
  clear eN ey h hbl hN1 hB
  have hN2 : (N : Int) ≤ 16 := by omega
  go_enter Tryz.func41, Tryz.ntmps41
  go_wp2_with (go_at_call 36; refine (HA.out _ HB.out.1).mono ?_; rintro e w1 ⟨rfl, h1, k1⟩; have H1 := hid (And.intro h1 k1); clear h1 k1)
  obtain ⟨m, em⟩ : ∃ m, m = w1.heap.size := ⟨_, rfl⟩
  have H2 : Hid (RkSt w (w1.alloc (.map #[] 0)) b y m []) := hid ⟨(Below.heap_alloc _ _ _ (lt_of_blk H1.out.1)).trans H1.out.1, by rw [em]; exact KmAt.made w1, (kept1 H1.out.2).alloc _, by rw [em]; exact H1.out.2.size, HB.out.2⟩
  rw [← em]
  obtain ⟨w2, e2⟩ : ∃ u, u = w1.alloc (.map #[] 0) := ⟨_, rfl⟩
  rw [← e2] at H2
  try rw [← e2]
  clear em e2 H1 hmm
  go_loopw [16, 6] (fun i pv wr => ∃ j : Nat, j ≤ N ∧ i = .int .i64 (j : Int) ∧ pv = .string (preR y j) ∧ RkSt w wr b (rdIs y j) m (rdIl y j) ∧ ∀ i, i < j → okR y i = true)
    (fun i _ _ => ((N : Int) - intOf i).toNat)
  case atStart => exact ⟨0, by omega, rfl, rfl, H2.out, fun i hi => by omega⟩
  case round =>
    obtain ⟨j, hj, rfl, rfl, hO, hup⟩ := hrel
    have hj0 : (0 : Int) ≤ (j : Int) := Int.natCast_nonneg _
    have HO := hid (And.intro hO hup)
    clear hO hup H2
    by_cases hjn : j = N
    · exfalso
      obtain ⟨i, hi, hk⟩ := HNo.out
      rw [HO.out.2 i (by omega)] at hk
      cases hk
    · have hj1 : (j : Int) < (N : Int) := by omega
      have HT : Hid (∀ u : World, RdAt u b (rdIs y j).s (rdIs y j).sh → Calls Tryz.prog 38 #[.pointer (some ⟨b, 0, none⟩)] u fun e w' => e = .returned (.string (keyR y j)) ∧ RdAt w' b (rdIs y j).txt.s (rdIs y j).txt.sh ∧ Kept b none u w') := hid (fun u hu => rtext_any b _ _ u hu)
      have HBi : Hid (∀ u : World, RdAt u b (rdIs y j).txt.s (rdIs y j).txt.sh → Calls Tryz.prog 87 #[.pointer (some ⟨b, 0, none⟩)] u fun e w' => e = .returned (.int .u64 ((bitR y j : Nat) : Int)) ∧ RdAt w' b (rdIs y (j + 1)).s (rdIs y (j + 1)).sh ∧ Kept b none u w') := hid (fun u hu => rbits_any b _ _ u hu)
      have hle := leq_text (keyR y j) (preR y j)
      have HKS : Hid ((keyR y j).size ≤ 65535) := hid (tT_size _ _)
      cases hok : okR y j with
      | true =>
        have hup1 : ∀ i, i < j + 1 → okR y i = true := fun i hi => by
          by_cases e : i = j
          · rw [e]; exact hok
          · exact HO.out.2 i (by omega)
        have hok2 := hok
        simp only [okR, Bool.and_eq_true, decide_eq_true_eq] at hok2
        rw [hok2.1.1, Bool.not_true] at hle
        have hs16 : ¬ ((16 : Int) < ((keyR y j).size : Int)) := by omega
        have hs17 : ¬ (16 < (keyR y j).size) := by omega
        have HP : Hid (putK (keyR y j) (bitR y j) (rdIl y j) = rdIl y (j + 1) ∧ Rise (rdIl y j) ∧ (keyR y j).size ≤ 16 ∧ (∀ i, i < j + 1 → okR y i = true)) := hid ⟨put_next y j hup1, rise_R y j (fun i hi => HO.out.2 i hi), hok2.1.2, hup1⟩
        have HFr : Hid (∀ u : World, Calls Tryz.prog 86 #[.int .u64 ((bitR y j : Nat) : Int)] u fun e w' => e = .returned (.tuple #[.float .f64 (bitR y j), .bool true]) ∧ w' = u) := hid (fun u => by have := from_any (bitR y j) u; rw [(fromW_ok hok2.2).1, hok2.2] at this; exact this)
        have HPr := hid (show preR y (j + 1) = keyR y j from rfl)
        generalize keyR y j = k at hle HT hs16 hs17 HP HPr HKS
        generalize bitR y j = bt at HBi HFr HP
        have HJ := hid (And.intro hj hjn)
        clear hup1 hok2 hok hj hjn
        go_wp2_with (first
          | (have := H5; refine wl_put_key rfl _ _ _ rfl m _ rfl H5.out.km HP.out.2.1 (by rw [rdIl_len]; have := HJ.out; omega) k (by have := HP.out.2.2.1; unfold maxLen; omega) rfl bt rfl ?_; intro w7 Hq; have H7 := hid (H5.out.put Hq.out.1 Hq.out.2); clear Hq)
          | (go_at_call 86; refine (HFr.out _).mono ?_; rintro e w6 ⟨rfl, hw6⟩; replace hw6 := hw6.symm; subst hw6)
          | (go_at_call 87; have := H4; refine (HBi.out _ H4.out.rd).mono ?_; rintro e w5 ⟨rfl, h5, k5⟩; have H5 := hid (H4.out.kept k5 h5); clear h5 k5)
          | (go_at_call 38; refine (HT.out _ HO.out.1.rd).mono ?_; rintro e w4 ⟨rfl, h4, k4⟩; have H4 := hid (HO.out.1.kept k4 h4); clear h4 k4))
        go_roundw
        case rel => exact ⟨j + 1, by have := HJ.out; omega, by go_num, by rw [HPr.out], by have := H7.out; rw [HP.out.1] at this; exact this, HP.out.2.2.2⟩
        case measure => simp [intOf]; omega
      | false =>
        clear hj hjn
        cases hlt : ltK (preR y j) (keyR y j) with
        | false =>
          rw [hlt, Bool.not_false] at hle
          have HFr : Hid (∀ u : World, Calls Tryz.prog 86 #[.int .u64 ((bitR y j : Nat) : Int)] u fun e w' => e = .returned (.tuple #[.float .f64 (fromW (bitR y j)), .bool (canW (bitR y j) == bitR y j)]) ∧ w' = u) := hid (fun u => from_any (bitR y j) u)
          generalize (canW (bitR y j) == bitR y j) = bo at HFr
          clear hok hlt
          go_wp2_with (first
            | (go_at_call 86; refine (HFr.out _).mono ?_; rintro e w6 ⟨rfl, hw6⟩; replace hw6 := hw6.symm; subst hw6)
            | (go_at_call 87; have := H4; refine (HBi.out _ H4.out.rd).mono ?_; rintro e w5 ⟨rfl, h5, k5⟩; have H5 := hid (H4.out.kept k5 h5); clear h5 k5)
            | (go_at_call 38; refine (HT.out _ HO.out.1.rd).mono ?_; rintro e w4 ⟨rfl, h4, k4⟩; have H4 := hid (HO.out.1.kept k4 h4); clear h4 k4))
          go_ret2
          exact ⟨rfl, ⟨_, H5.out.rd⟩, H5.out.out⟩
        | true =>
          rw [hlt, Bool.not_true] at hle
          by_cases hs : (keyR y j).size ≤ 16
          · have hs16 : ¬ ((16 : Int) < ((keyR y j).size : Int)) := by omega
            have hs17 : ¬ (16 < (keyR y j).size) := by omega
            have hcb : (canW (bitR y j) == bitR y j) = false := by
              rw [okR, hlt, decide_eq_true hs] at hok
              simpa using hok
            have HFr : Hid (∀ u : World, Calls Tryz.prog 86 #[.int .u64 ((bitR y j : Nat) : Int)] u fun e w' => e = .returned (.tuple #[.float .f64 (fromW (bitR y j)), .bool false]) ∧ w' = u) := hid (fun u => by have := from_any (bitR y j) u; rw [hcb] at this; exact this)
            clear hok hlt hs hcb
            go_wp2_with (first
              | (go_at_call 86; refine (HFr.out _).mono ?_; rintro e w6 ⟨rfl, hw6⟩; replace hw6 := hw6.symm; subst hw6)
              | (go_at_call 87; have := H4; refine (HBi.out _ H4.out.rd).mono ?_; rintro e w5 ⟨rfl, h5, k5⟩; have H5 := hid (H4.out.kept k5 h5); clear h5 k5)
              | (go_at_call 38; refine (HT.out _ HO.out.1.rd).mono ?_; rintro e w4 ⟨rfl, h4, k4⟩; have H4 := hid (HO.out.1.kept k4 h4); clear h4 k4))
            go_ret2
            exact ⟨rfl, ⟨_, H5.out.rd⟩, H5.out.out⟩
          · have hs16 : (16 : Int) < ((keyR y j).size : Int) := by omega
            have hs17 : 16 < (keyR y j).size := by omega
            have HFr : Hid (∀ u : World, Calls Tryz.prog 86 #[.int .u64 ((bitR y j : Nat) : Int)] u fun e w' => e = .returned (.tuple #[.float .f64 (fromW (bitR y j)), .bool (canW (bitR y j) == bitR y j)]) ∧ w' = u) := hid (fun u => from_any (bitR y j) u)
            generalize (canW (bitR y j) == bitR y j) = bo at HFr
            clear hok hlt hs
            go_wp2_with (first
              | (go_at_call 86; refine (HFr.out _).mono ?_; rintro e w6 ⟨rfl, hw6⟩; replace hw6 := hw6.symm; subst hw6)
              | (go_at_call 87; have := H4; refine (HBi.out _ H4.out.rd).mono ?_; rintro e w5 ⟨rfl, h5, k5⟩; have H5 := hid (H4.out.kept k5 h5); clear h5 k5)
              | (go_at_call 38; refine (HT.out _ HO.out.1.rd).mono ?_; rintro e w4 ⟨rfl, h4, k4⟩; have H4 := hid (HO.out.1.kept k4 h4); clear h4 k4))
            go_ret2
            exact ⟨rfl, ⟨_, H5.out.rd⟩, H5.out.out⟩
end Go.Proofs.YtecidbdbdnnglaaGreat

/- The program's ledger out of bytes: readLast. -/
namespace Go.Proofs.YtecidbdbdnnglaaGreat
open Go.RowKit

/-- A row of deeds in a variable. -/
def DaAt (w : World) (g : Nat) (l : List De) : Prop := w.heap[g]? = some (.cells (deC l).toArray 70 (0, 0))
theorem DaAt.keep {w w' : World} {g : Nat} {l : List De} (h : DaAt w g l) (hb : Below w.heap.size w w') : DaAt w' g l := (hb.block g (lt_of_blk h)).trans h
theorem DaAt.one {w w' : World} {g b : Nat} {l : List De} (h : DaAt w g l) (ho : One b w w') (hb : g ≠ b) : DaAt w' g l := (ho.block g hb).trans h
theorem DaAt.range {w : World} {g : Nat} {l : List De} (h : DaAt w g l) : w.rangeAt g 0 (deC l) := fun q v hv => by
  rw [Nat.zero_add]
  exact cell_at h q v hv
theorem DaAt.cd {w : World} {g : Nat} {l : List De} (h : DaAt w g l) (c : Nat) (d : De) (hd : l[c]? = some d) : w.cell? ⟨g, c * 3, none⟩ = some (.int .i64 (d.1 : Int)) ∧ w.cell? ⟨g, c * 3 + 1, none⟩ = some (.int .i64 d.2.1) ∧ w.cell? ⟨g, c * 3 + 2, none⟩ = some (.float .f64 d.2.2) := by
  obtain ⟨h1, h2, h3⟩ := deC_at l c d hd
  rw [Nat.mul_comm] at h1 h2 h3
  exact ⟨cell_at h _ _ h1, cell_at h _ _ h2, cell_at h _ _ h3⟩
theorem DaAt.there {w : World} {g : Nat} {l : List De} (h : DaAt w g l) (c : Nat) (hc : c < l.length) : w.there g (c * 3) 3 := fun j hj => by
  obtain ⟨z0, z1, z2⟩ := h.cd c (l.getD c (0, 0, 0)) (by simp [hc])
  refine ⟨?_, free_at h _⟩
  match j, hj with
  | 0, _ => rw [Nat.add_zero, z0]; rfl
  | 1, _ => rw [z1]; rfl
  | 2, _ => rw [z2]; rfl
theorem DaAt.put {w : World} {g : Nat} {l : List De} (h : DaAt w g l) (c : Nat) (hc : c < l.length) (d : De) : DaAt (w.setCells g (c * 3) [.int .i64 (d.1 : Int), .int .i64 d.2.1, .float .f64 d.2.2]) g (l.set c d) := by
  have h0 := blk_set h (c * 3) (.int .i64 (d.1 : Int))
  have h1 := blk_set h0 (c * 3 + 1) (.int .i64 d.2.1)
  have h2 := blk_set h1 (c * 3 + 1 + 1) (.float .f64 d.2.2)
  refine h2.trans ?_
  have := deC_set l c d hc
  rw [Nat.mul_comm] at this
  rw [← this]
  simp
theorem wl_store_da {o : Oper} {a : Act} {w : World} {ops : Array Oper} {rest : List Oper} {Q : Exit → Act → World → Prop} (hgd : o.guard = none) (p x : Operand) (ho : o.op = .store 69 p x) (g : Nat) (l : List De) (c : Nat) (hc : c < l.length) (hp : a.eval p = .pointer (some ⟨g, c * 3, none⟩)) (d : De) (hx : a.eval x = .agg #[.int .i64 (d.1 : Int), .int .i64 d.2.1, .float .f64 d.2.2]) (h : DaAt w g l)
    (hK : ∀ w', Hid (DaAt w' g (l.set c d) ∧ One g w w') → wpList Tryz.prog ops Q rest (a.put o.dst undef) w') : wpList Tryz.prog ops Q (o :: rest) a w :=
  wpList_store_mid (P := Tryz.prog) hgd 69 p x ho g (c * 3) #[.int .i64 (d.1 : Int), .int .i64 d.2.1, .float .f64 d.2.2] hp hx (h.there c hc) (by kernel_rfl) (by simp [Value.oneCell']) (hK _ ⟨h.put c hc d, one_cells g _ _ w⟩)
/-- A whole row over another one. -/
theorem set_all (g : Nat) (T : TypeId) : ∀ (vs : List Value) (pre rest : List Value) (w : World), w.heap[g]? = some (.cells (pre ++ rest).toArray T (0, 0)) → vs.length = rest.length → (w.setCells g pre.length vs).heap[g]? = some (.cells (pre ++ vs).toArray T (0, 0))
  | [], pre, rest, w, h, hl => by
    obtain rfl : rest = [] := List.eq_nil_of_length_eq_zero hl.symm
    exact h
  | v :: vs, pre, r :: rest, w, h, hl => by
    have h1 := blk_set h pre.length v
    have e1 : (pre ++ r :: rest).toArray.setIfInBounds pre.length v = ((pre ++ [v]) ++ rest).toArray := by
      simp
    rw [e1] at h1
    have := set_all g T vs (pre ++ [v]) rest _ h1 (by simpa using hl)
    rw [List.length_append, List.append_assoc] at this
    exact this
  | v :: vs, pre, [], w, h, hl => by simp at hl
theorem deC_one (l : List De) : ∀ v, v ∈ deC l → v.oneCell' = true := by
  intro v hv
  obtain ⟨d, _, hd⟩ := List.mem_flatMap.1 hv
  simp at hd
  rcases hd with rfl | rfl | rfl <;> rfl
theorem wl_store_all {o : Oper} {a : Act} {w : World} {ops : Array Oper} {rest : List Oper} {Q : Exit → Act → World → Prop} (hgd : o.guard = none) (p x : Operand) (ho : o.op = .store 70 p x) (g : Nat) (l k : List De) (hl : l.length = 8) (hk : k.length = 8) (hp : a.eval p = .pointer (some ⟨g, 0, none⟩)) (hx : a.eval x = .agg (deC k).toArray) (h : DaAt w g l)
    (hK : ∀ w', Hid (DaAt w' g k ∧ One g w w') → wpList Tryz.prog ops Q rest (a.put o.dst undef) w') : wpList Tryz.prog ops Q (o :: rest) a w := by
  refine wpList_store_mid (P := Tryz.prog) hgd 70 p x ho g 0 (deC k).toArray hp hx (fun j hj => ?_) ?_ (all_oneCell_toArray (deC_one k)) (hK _ ⟨?_, one_cells g _ _ w⟩)
  · refine ⟨?_, free_at h _⟩
    have hj2 : j < (deC l).length := by rw [deC_len, hl]; rw [List.size_toArray, deC_len, hk] at hj; exact hj
    rw [Nat.zero_add, cell_at h j _ (List.getElem?_eq_getElem hj2)]
    rfl
  · rw [List.size_toArray, deC_len, hk]; kernel_rfl
  · exact set_all g _ (deC k) [] (deC l) w h (by rw [deC_len, deC_len, hl, hk])
/-- What is filled so far. -/
def fillD (D : List De) (j : Nat) : List De := D.take j ++ List.replicate (8 - j) (0, 0, 0)
theorem fillD_len {D : List De} (hD : D.length = 8) {j : Nat} (hj : j ≤ 8) : (fillD D j).length = 8 := by
  rw [fillD, List.length_append, List.length_take, List.length_replicate]; omega
theorem fillD_set {D : List De} (hD : D.length = 8) {j : Nat} (hj : j < 8) : (fillD D j).set j (D.getD j (0, 0, 0)) = fillD D (j + 1) := by
  have hl : (D.take j).length = j := by rw [List.length_take]; omega
  have hx : D[j]? = some (D.getD j (0, 0, 0)) := by simp [show j < D.length by omega]
  rw [fillD, fillD, List.set_append_right _ _ (by omega), hl, Nat.sub_self, show 8 - j = (8 - (j + 1)) + 1 by omega, List.replicate_succ, List.set_cons_zero, List.take_add_one, hx, List.append_assoc]
  rfl
theorem fillD_at {D : List De} (hD : D.length = 8) {j : Nat} (hj : j < 8) : (fillD D (j + 1))[j]? = some (D.getD j (0, 0, 0)) := by
  have hx : D[j]? = some (D.getD j (0, 0, 0)) := by simp [show j < D.length by omega]
  have hl : j < (D.take (j + 1)).length := by rw [List.length_take]; omega
  rw [fillD, List.getElem?_append_left hl, List.getElem?_take, if_pos (by omega), hx]
theorem rt_ok (p : Nat × ByteArray) : (okRs p.2 && rtB (deOf p)) = okD p := by
  unfold okD rtB deOf
  cases okRs p.2
  · rfl
  · rw [Bool.true_and, Bool.true_and]
    by_cases h : p.1 = 0
    · rw [if_pos h, decide_eq_true h, decide_eq_true (show p.1 ≤ 1048576 by omega)]
      simp [sameS, canW_nought]
    · rw [if_neg h, decide_eq_false h]
      simp
/-- While the deeds are read: the result's variable, the row, the reader. -/
structure RlSt (w0 w : World) (b : Nat) (x : Rd) (l : List De) : Prop where
  rd : RdAt w b x.s x.sh
  res : DaAt w w0.heap.size (List.replicate 8 (0, 0, 0))
  da : DaAt w (w0.heap.size + 1) l
  out : Out [b] w0 w
  hb : b < w0.heap.size
theorem RlSt.kept {w0 w w' : World} {b : Nat} {x y : Rd} {l : List De} (h : RlSt w0 w b x l) (k : Kept b none w w') (hr : RdAt w' b y.s y.sh) : RlSt w0 w' b y l :=
  ⟨hr, (k.block _ (lt_of_blk h.res) (by have := h.hb; omega) (by simp)).trans h.res, (k.block _ (lt_of_blk h.da) (by have := h.hb; omega) (by simp)).trans h.da, h.out.trans (kept1 k) (fun _ hm => .inl hm), h.hb⟩
theorem RlSt.keep {w0 w w' : World} {b : Nat} {x : Rd} {l : List De} (h : RlSt w0 w b x l) (hb : Below w.heap.size w w') : RlSt w0 w' b x l :=
  ⟨(hb.block _ (lt_of_blk h.rd)).trans h.rd, h.res.keep hb, h.da.keep hb, h.out.more hb, h.hb⟩
theorem RlSt.one {w0 w w' : World} {b k : Nat} {x : Rd} {l : List De} (h : RlSt w0 w b x l) (ho : One k w w') (hk : w0.heap.size + 2 ≤ k) : RlSt w0 w' b x l :=
  ⟨(ho.block _ (by have := h.hb; omega)).trans h.rd, h.res.one ho (by omega), h.da.one ho (by omega), ho.outB h.out (.inr (by omega)), h.hb⟩
theorem RlSt.put {w0 w w' : World} {b : Nat} {x : Rd} {l l' : List De} (h : RlSt w0 w b x l) (hd : DaAt w' (w0.heap.size + 1) l') (ho : One (w0.heap.size + 1) w w') : RlSt w0 w' b x l' :=
  ⟨(ho.block _ (by have := h.hb; omega)).trans h.rd, h.res.one ho (by omega), hd, ho.outB h.out (.inr (by omega)), h.hb⟩
theorem rdDl_get (x : Rd) : ∀ N i, i < N → (rdDl x N)[i]? = some (rN (rdDs x i).s (rdDs x i).sh 4, tT ((rdDs x i).num 4).s ((rdDs x i).num 4).sh)
  | 0, i, h => by omega
  | N + 1, i, h => by
    rw [rdDl]
    by_cases e : i = N
    · rw [e, List.getElem?_append_right (by rw [rdDl_len]; exact Nat.le_refl _), rdDl_len, Nat.sub_self]
      rfl
    · rw [List.getElem?_append_left (by rw [rdDl_len]; omega)]
      exact rdDl_get x N i (by omega)
theorem all_snoc (L : List (Nat × ByteArray)) (j : Nat) (p : Nat × ByteArray) (h : L[j]? = some p) : (L.take (j + 1)).all okD = ((L.take j).all okD && okD p) := by
  rw [List.take_add_one, h, List.all_append]
  simp
set_option maxRecDepth 100000 in
set_option maxHeartbeats 12800000 in
theorem greadLast_any (b : Nat) (x : Rd) (w : World) (h : RdAt w b x.s x.sh) :
    Calls Tryz.prog 42 #[.pointer (some ⟨b, 0, none⟩)] w fun e w' => e = .returned (.tuple #[.agg (deC ((rdDl x 8).map deOf)).toArray, .bool ((rdDl x 8).all okD)]) ∧ RdAt w' b (rdDs x 8).s (rdDs x 8).sh ∧ Out [b] w w' := by
  have hbl := lt_of_blk h
  obtain ⟨D, eD⟩ : ∃ D, D = (rdDl x 8).map deOf := ⟨_, rfl⟩
  obtain ⟨A, eA⟩ : ∃ A, A = (rdDl x 8).all okD := ⟨_, rfl⟩
  have HD : Hid (D = (rdDl x 8).map deOf ∧ D.length = 8 ∧ A = (rdDl x 8).all okD) := hid ⟨eD, by rw [eD, List.length_map, rdDl_len], eA⟩
  rw [← eD, ← eA]
  have hax := (Below.refl w.heap.size w).alloc (Nat.le_refl _) (.cells (deC (List.replicate 8 (0, 0, 0))).toArray 70)
  have H0 : Hid (RlSt w ((w.alloc (.cells (deC (List.replicate 8 (0, 0, 0))).toArray 70)).alloc (.cells (deC (List.replicate 8 (0, 0, 0))).toArray 70)) b x (fillD D 0)) := hid
    ⟨(Below.heap_alloc _ _ _ (by simp; omega)).trans ((Below.heap_alloc _ _ _ hbl).trans h), (Below.heap_alloc _ _ _ (by simp)).trans (heap_alloc_last w _), by rw [show fillD D 0 = List.replicate 8 (0, 0, 0) from rfl]; exact snd_alloc w _ _, ((Out.refl [b] w).alloc _).alloc _, hbl⟩
  clear eD eA h hbl hax
  go_enter Tryz.func42, Tryz.ntmps42
  go_wp2
  obtain ⟨w1, e1⟩ : ∃ u, u = (w.alloc (.cells (deC (List.replicate 8 (0, 0, 0))).toArray 70)).alloc (.cells (deC (List.replicate 8 (0, 0, 0))).toArray 70) := ⟨_, rfl⟩
  rw [← e1] at H0
  first
    | rw [← e1]
    | (change Code.wp _ _ _ _ ((w.alloc (.cells (deC (List.replicate 8 (0, 0, 0))).toArray 70)).alloc (.cells (deC (List.replicate 8 (0, 0, 0))).toArray 70)); rw [← e1])
  clear e1
  go_loopw [10, 5] (fun i ar wr => ∃ j : Nat, j ≤ 8 ∧ i = .int .i64 (j : Int) ∧ ar = .bool (((rdDl x 8).take j).all okD) ∧ RlSt w wr b (rdDs x j) (fillD D j))
    (fun i _ _ => ((8 : Int) - intOf i).toNat)
  case atStart => exact ⟨0, by omega, rfl, rfl, H0.out⟩
  case round =>
    obtain ⟨j, hj, rfl, rfl, hO⟩ := hrel
    have hj0 : (0 : Int) ≤ (j : Int) := Int.natCast_nonneg _
    have HO := hid hO
    clear hO H0
    by_cases hjn : j = 8
    · have hj1 : ¬ ((j : Int) < 8) := by omega
      have hO := HO.out
      rw [hjn] at hO
      have hfull : fillD D 8 = D := by rw [fillD, List.take_of_length_le (by rw [HD.out.2.1]; exact Nat.le_refl _)]; simp
      rw [hfull] at hO
      have HF := hid hO
      have HA : Hid ((List.take j (rdDl x 8)).all okD = A) := hid (by rw [HD.out.2.2, List.take_of_length_le (by rw [rdDl_len]; omega)])
      rw [HA.out]
      clear hj hjn hO HO hfull
      go_wp2_with (first
        | (refine wl_store_all rfl _ _ rfl w.heap.size (List.replicate 8 (0, 0, 0)) D rfl HD.out.2.1 rfl rfl HF.out.res ?_; intro w5 Hq; have H5 : Hid (DaAt w5 w.heap.size D ∧ RdAt w5 b (rdDs x 8).s (rdDs x 8).sh ∧ Out [b] w w5) := hid ⟨Hq.out.1, (Hq.out.2.block _ (by have := HF.out.hb; omega)).trans HF.out.rd, Hq.out.2.outB HF.out.out (.inr (Nat.le_refl _))⟩; clear Hq)
        | (refine wpList_load_mid rfl 70 _ rfl (w.heap.size + 1) 0 rfl (deC D) _ HF.out.da.range Tryz.underlying70 rfl (by rw [deC_len, HD.out.2.1]; kernel_rfl) ?_))
      refine ret_pair (s := 2) (s2 := 3) (ad := ⟨w.heap.size, 0, none⟩) rfl rfl (run_loadVar_mid (P := Tryz.prog) w5 w.heap.size 0 70 (deC D) _ H5.out.1.range Tryz.underlying70 rfl (by rw [deC_len, HD.out.2.1]; kernel_rfl)) rfl rfl ?_
      exact ⟨rfl, H5.out.2.1, H5.out.2.2⟩
    · have hj1 : (j : Int) < 8 := by omega
      have hj8 : j < 8 := by omega
      obtain ⟨st, est⟩ : ∃ st, st = rN (rdDs x j).s (rdDs x j).sh 4 := ⟨_, rfl⟩
      obtain ⟨tx, etx⟩ : ∃ tx, tx = tT ((rdDs x j).num 4).s ((rdDs x j).num 4).sh := ⟨_, rfl⟩
      have hget := rdDl_get x 8 j hj8
      rw [← est, ← etx] at hget
      have hDg : D.getD j (0, 0, 0) = (st, rsC tx, rsF tx) := by
        rw [List.getD_eq_getElem?_getD, HD.out.1, List.getElem?_map, hget]
        rfl
      have HS : Hid ((fillD D j).set j (st, rsC tx, rsF tx) = fillD D (j + 1)) := hid (by rw [← hDg]; exact fillD_set HD.out.2.1 hj8)
      have HS2 : Hid ((fillD D (j + 1))[j]? = some (st, rsC tx, rsF tx)) := hid (by rw [← hDg]; exact fillD_at HD.out.2.1 hj8)
      have HL : Hid (∀ u : World, RdAt u b (rdDs x j).s (rdDs x j).sh → Calls Tryz.prog 40 #[.pointer (some ⟨b, 0, none⟩)] u fun e w' => e = .returned (.int .i64 (st : Int)) ∧ RdAt w' b ((rdDs x j).num 4).s ((rdDs x j).num 4).sh ∧ Kept b none u w') := hid (fun u hu => by rw [est]; exact rlong_any b _ _ u hu)
      have HT : Hid (∀ u : World, RdAt u b ((rdDs x j).num 4).s ((rdDs x j).num 4).sh → Calls Tryz.prog 38 #[.pointer (some ⟨b, 0, none⟩)] u fun e w' => e = .returned (.string tx) ∧ RdAt w' b (rdDs x (j + 1)).s (rdDs x (j + 1)).sh ∧ Kept b none u w') := hid (fun u hu => by rw [etx]; exact rtext_any b _ _ u hu)
      have hall := all_snoc (rdDl x 8) j _ hget
      rw [← rt_ok, show deOf (st, tx) = (st, rsC tx, rsF tx) from rfl] at hall
      have HJ := hid (And.intro hj hjn)
      have hst : (0 : Int) ≤ (st : Int) := Int.natCast_nonneg _
      clear est etx hget hDg hj hjn hj8
      cases ha : ((rdDl x 8).take j).all okD with
      | false =>
        have HAn : Hid (((rdDl x 8).take (j + 1)).all okD = false) := hid (by rw [hall, ha]; rfl)
        have HRr := hid (fun u => dreadResult_any tx u)
        generalize rsR tx = re at HRr
        clear hall ha
        go_wp2_with (first
          | (have := H7; refine wl_store_da rfl _ _ rfl (w.heap.size + 1) (fillD D j) j (by rw [fillD_len HD.out.2.1 HJ.out.1]; have := HJ.out; omega) (by first | rfl | (simp; done) | go_simp) (st, rsC tx, rsF tx) rfl H7.out.1.da ?_; intro w8 Hq; have H8 : Hid (RlSt w w8 b (rdDs x (j + 1)) (fillD D (j + 1))) := hid (by have := H7.out.1.put Hq.out.1 Hq.out.2; rw [HS.out] at this; exact this); clear Hq; obtain ⟨q0, q1, q2⟩ := H8.out.da.cd j _ HS2.out)
          | (have := H6; refine wl_store_rs rfl _ _ rfl w6.heap.size rfl 0 (rsC tx) 0 (rsF tx) rfl (heap_alloc_last w6 _) ?_; intro w7 Hq; have hbx := (Below.refl w6.heap.size w6).alloc (Nat.le_refl _) (.cells #[.int .i64 0, .float .f64 0] 50); have H7 : Hid (RlSt w w7 b (rdDs x (j + 1)) (fillD D j) ∧ RsAt w7 w6.heap.size (rsC tx) (rsF tx)) := hid ⟨(H6.out.keep hbx).one Hq.out.2 (lt_of_blk H6.out.da), Hq.out.1⟩; clear Hq hbx; obtain ⟨p0, p1⟩ := H7.out.2.cells)
          | (go_at_call 88; have := H5; refine (HRr.out _).mono ?_; rintro e w6 ⟨rfl, hb6⟩; have H6 := hid (H5.out.keep hb6); clear hb6)
          | (go_at_call 38; have := H4; refine (HT.out _ H4.out.rd).mono ?_; rintro e w5 ⟨rfl, h5, k5⟩; have H5 := hid (H4.out.kept k5 h5); clear h5 k5)
          | (go_at_call 40; refine (HL.out _ HO.out.rd).mono ?_; rintro e w4 ⟨rfl, h4, k4⟩; have H4 := hid (HO.out.kept k4 h4); clear h4 k4))
        go_roundw
        case rel => exact ⟨j + 1, by have := HJ.out; omega, by go_num, by first | (rw [HAn.out]; done) | (rw [HAn.out]; rfl) | (simp [HAn.out]), H8.out⟩
        case measure => simp [intOf]; omega
      | true =>
        cases hok : okRs tx with
        | false =>
          have HAn : Hid (((rdDl x 8).take (j + 1)).all okD = false) := hid (by rw [hall, ha]; show (true && (okRs tx && _)) = _; rw [hok]; rfl)
          have HRr : Hid (∀ u : World, Calls Tryz.prog 88 #[.string tx] u fun e w' => e = .returned (.tuple #[.agg #[.int .i64 (rsC tx), .float .f64 (rsF tx)], .int .i64 5]) ∧ Below u.heap.size u w') := hid (fun u => by have := dreadResult_any tx u; rw [show rsR tx = 5 by rw [rsR, hok]; rfl] at this; exact this)
          clear hall ha hok
          go_wp2_with (first
            | (have := H7; refine wl_store_da rfl _ _ rfl (w.heap.size + 1) (fillD D j) j (by rw [fillD_len HD.out.2.1 HJ.out.1]; have := HJ.out; omega) (by first | rfl | (simp; done) | go_simp) (st, rsC tx, rsF tx) rfl H7.out.1.da ?_; intro w8 Hq; have H8 : Hid (RlSt w w8 b (rdDs x (j + 1)) (fillD D (j + 1))) := hid (by have := H7.out.1.put Hq.out.1 Hq.out.2; rw [HS.out] at this; exact this); clear Hq; obtain ⟨q0, q1, q2⟩ := H8.out.da.cd j _ HS2.out)
            | (have := H6; refine wl_store_rs rfl _ _ rfl w6.heap.size rfl 0 (rsC tx) 0 (rsF tx) rfl (heap_alloc_last w6 _) ?_; intro w7 Hq; have hbx := (Below.refl w6.heap.size w6).alloc (Nat.le_refl _) (.cells #[.int .i64 0, .float .f64 0] 50); have H7 : Hid (RlSt w w7 b (rdDs x (j + 1)) (fillD D j) ∧ RsAt w7 w6.heap.size (rsC tx) (rsF tx)) := hid ⟨(H6.out.keep hbx).one Hq.out.2 (lt_of_blk H6.out.da), Hq.out.1⟩; clear Hq hbx; obtain ⟨p0, p1⟩ := H7.out.2.cells)
            | (go_at_call 88; have := H5; refine (HRr.out _).mono ?_; rintro e w6 ⟨rfl, hb6⟩; have H6 := hid (H5.out.keep hb6); clear hb6)
            | (go_at_call 38; have := H4; refine (HT.out _ H4.out.rd).mono ?_; rintro e w5 ⟨rfl, h5, k5⟩; have H5 := hid (H4.out.kept k5 h5); clear h5 k5)
            | (go_at_call 40; refine (HL.out _ HO.out.rd).mono ?_; rintro e w4 ⟨rfl, h4, k4⟩; have H4 := hid (HO.out.kept k4 h4); clear h4 k4))
          go_roundw
          case rel => exact ⟨j + 1, by have := HJ.out; omega, by go_num, by first | (rw [HAn.out]; done) | (rw [HAn.out]; rfl) | (simp [HAn.out]), H8.out⟩
          case measure => simp [intOf]; omega
        | true =>
          have HAn : Hid (((rdDl x 8).take (j + 1)).all okD = rtB (st, rsC tx, rsF tx)) := hid (by rw [hall, ha]; show (true && (okRs tx && _)) = _; rw [hok]; rfl)
          have HRr : Hid (∀ u : World, Calls Tryz.prog 88 #[.string tx] u fun e w' => e = .returned (.tuple #[.agg #[.int .i64 (rsC tx), .float .f64 (rsF tx)], .int .i64 0]) ∧ Below u.heap.size u w') := hid (fun u => by have := dreadResult_any tx u; rw [show rsR tx = 0 by rw [rsR, hok]; rfl] at this; exact this)
          have HRt := hid (fun u => gisRight_any (st, rsC tx, rsF tx) u)
          generalize rtB (st, rsC tx, rsF tx) = rb at HAn HRt
          clear hall ha hok
          go_wp2_with (first
            | (go_at_call 89; have := H8; refine (HRt.out _).mono ?_; rintro e w9 ⟨rfl, hb9⟩; have H9 := hid (H8.out.keep hb9); clear hb9)
            | (have := H7; refine wl_store_da rfl _ _ rfl (w.heap.size + 1) (fillD D j) j (by rw [fillD_len HD.out.2.1 HJ.out.1]; have := HJ.out; omega) (by first | rfl | (simp; done) | go_simp) (st, rsC tx, rsF tx) rfl H7.out.1.da ?_; intro w8 Hq; have H8 : Hid (RlSt w w8 b (rdDs x (j + 1)) (fillD D (j + 1))) := hid (by have := H7.out.1.put Hq.out.1 Hq.out.2; rw [HS.out] at this; exact this); clear Hq; obtain ⟨q0, q1, q2⟩ := H8.out.da.cd j _ HS2.out)
            | (have := H6; refine wl_store_rs rfl _ _ rfl w6.heap.size rfl 0 (rsC tx) 0 (rsF tx) rfl (heap_alloc_last w6 _) ?_; intro w7 Hq; have hbx := (Below.refl w6.heap.size w6).alloc (Nat.le_refl _) (.cells #[.int .i64 0, .float .f64 0] 50); have H7 : Hid (RlSt w w7 b (rdDs x (j + 1)) (fillD D j) ∧ RsAt w7 w6.heap.size (rsC tx) (rsF tx)) := hid ⟨(H6.out.keep hbx).one Hq.out.2 (lt_of_blk H6.out.da), Hq.out.1⟩; clear Hq hbx; obtain ⟨p0, p1⟩ := H7.out.2.cells)
            | (go_at_call 88; have := H5; refine (HRr.out _).mono ?_; rintro e w6 ⟨rfl, hb6⟩; have H6 := hid (H5.out.keep hb6); clear hb6)
            | (go_at_call 38; have := H4; refine (HT.out _ H4.out.rd).mono ?_; rintro e w5 ⟨rfl, h5, k5⟩; have H5 := hid (H4.out.kept k5 h5); clear h5 k5)
            | (go_at_call 40; refine (HL.out _ HO.out.rd).mono ?_; rintro e w4 ⟨rfl, h4, k4⟩; have H4 := hid (HO.out.kept k4 h4); clear h4 k4))
          go_roundw
          case rel => exact ⟨j + 1, by have := HJ.out; omega, by go_num, by first | (rw [HAn.out]; done) | (rw [HAn.out]; rfl) | (simp [HAn.out]), H9.out⟩
          case measure => simp [intOf]; omega
end Go.Proofs.YtecidbdbdnnglaaGreat

/- The program's ledger out of bytes: Open. -/
namespace Go.Proofs.YtecidbdbdnnglaaGreat
open Go.RowKit

/-- While a ledger is opened: the reader at b. -/
structure OpSt (w0 w : World) (b : Nat) (x : Rd) : Prop where
  rd : RdAt w b x.s x.sh
  bel : Below w0.heap.size w0 w
  hb : w0.heap.size ≤ b
theorem OpSt.out {w0 w w' : World} {b : Nat} {x y : Rd} (h : OpSt w0 w b x) (k : Out [b] w w') (hr : RdAt w' b y.s y.sh) : OpSt w0 w' b y :=
  ⟨hr, Out.low h.bel k (Nat.le_refl _) (fun c hc => by rw [List.mem_singleton.1 hc]; exact h.hb), h.hb⟩
theorem OpSt.keep {w0 w w' : World} {b : Nat} {x : Rd} (h : OpSt w0 w b x) (hb : Below w.heap.size w w') : OpSt w0 w' b x := ⟨(hb.block _ (lt_of_blk h.rd)).trans h.rd, h.bel.trans (hb.mono h.bel.size), h.hb⟩
theorem OpSt.one {w0 w w' : World} {b k : Nat} {x : Rd} (h : OpSt w0 w b x) (ho : One k w w') (hk : w0.heap.size ≤ k) (hne : b ≠ k) : OpSt w0 w' b x := ⟨(ho.block _ hne).trans h.rd, ho.below h.bel hk, h.hb⟩
theorem NewI.outB {B b : Nat} {w w' : World} {ad : Option Addr} {l : List Int} (h : NewI B w ad l) (ho : Out [b] w w') (hb : b < B) : NewI B w' ad l := by
  have hx : ∀ x, ad = some x → w'.heap[x.block]? = w.heap[x.block]? := fun x hx => ho.block _ (h.far x hx).2.lt (fun hm => by have := (h.far x hx).1; have := List.mem_singleton.1 hm; omega)
  exact ⟨ints_stay h.ints ho.size hx, fun x hxx => ⟨(h.far x hxx).1, (h.far x hxx).2.keep (hx x hxx)⟩⟩
theorem GfAt.outB {w w' : World} {k b : Nat} {e : Int} {vm : Value} (h : GfAt w k e vm) (ho : Out [b] w w') (hb : k ≠ b) : GfAt w' k e vm := (ho.block _ (lt_of_blk h) (fun hm => hb (List.mem_singleton.1 hm))).trans h
theorem GfAt.oneB {w w' : World} {k b : Nat} {e : Int} {vm : Value} (h : GfAt w k e vm) (ho : One b w w') (hb : k ≠ b) : GfAt w' k e vm := (ho.block _ hb).trans h
theorem KmAt.outB {w w' : World} {m b : Nat} {L : List Kb} (h : KmAt w m L) (ho : Out [b] w w') (hb : m ≠ b) : KmAt w' m L := h.keep (ho.block _ h.lt (fun hm => hb (List.mem_singleton.1 hm)))
theorem greadKeys_gen (b : Nat) (x : Rd) (w : World) (h : RdAt w b x.s x.sh) : Calls Tryz.prog 41 #[.pointer (some ⟨b, 0, none⟩)] w fun e w' => ∃ (mo : Option Nat) (kb : Bool), e = .returned (.tuple #[.map mo, .bool kb]) ∧ (∃ z : Rd, RdAt w' b z.s z.sh) ∧ Out [b] w w' := by
  cases hB : keysB (rdIl (x.num 1) (rN x.s x.sh 1)) with
  | true => exact (greadKeys_yes b x w h hB).mono fun _ _ ⟨m, he, _, _, hr, ho⟩ => ⟨some m, true, he, ⟨_, hr⟩, ho⟩
  | false => exact (greadKeys_no b x w h hB).mono fun _ _ ⟨he, hr, ho⟩ => ⟨none, false, he, hr, ho⟩
/-- Where a variable for the deeds is made and filled. -/
theorem da_new (w : World) : DaAt (w.alloc (.cells (deC (List.replicate 8 (0, 0, 0))).toArray 70)) w.heap.size (List.replicate 8 (0, 0, 0)) := heap_alloc_last w _
/-- What the program read ahead of the keys. -/
structure OaSt (w0 w : World) (b : Nat) (x : Rd) (cv : Nat) (z : Int) (a1 : Option Addr) (n1 c1 : Nat) (M : List Int) (a2 : Option Addr) (X : List Int) : Prop where
  op : OpSt w0 w b x
  mem : NewI (b + 1) w a1 M
  cf : GfAt w cv z (.slice a1 n1 c1)
  nxt : NewI (b + 1) w a2 X
  hcv : b < cv
theorem OaSt.out {w0 w w' : World} {b : Nat} {x y : Rd} {cv : Nat} {z : Int} {a1 : Option Addr} {n1 c1 : Nat} {M : List Int} {a2 : Option Addr} {X : List Int} (h : OaSt w0 w b x cv z a1 n1 c1 M a2 X) (k : Out [b] w w') (hr : RdAt w' b y.s y.sh) : OaSt w0 w' b y cv z a1 n1 c1 M a2 X :=
  ⟨h.op.out k hr, h.mem.outB k (Nat.lt_succ_self _), h.cf.outB k (Nat.ne_of_gt h.hcv), h.nxt.outB k (Nat.lt_succ_self _), h.hcv⟩
theorem OaSt.keep {w0 w w' : World} {b : Nat} {x : Rd} {cv : Nat} {z : Int} {a1 : Option Addr} {n1 c1 : Nat} {M : List Int} {a2 : Option Addr} {X : List Int} (h : OaSt w0 w b x cv z a1 n1 c1 M a2 X) (hb : Below w.heap.size w w') : OaSt w0 w' b x cv z a1 n1 c1 M a2 X :=
  ⟨h.op.keep hb, h.mem.keep hb, h.cf.keep hb, h.nxt.keep hb, h.hcv⟩
theorem NewI.oneL {B b : Nat} {w w' : World} {ad : Option Addr} {l : List Int} (h : NewI B w ad l) (ho : One b w w') (hb : ∀ x, ad = some x → x.block ≠ b) : NewI B w' ad l :=
  ⟨ints_stay h.ints (Nat.le_of_eq ho.size.symm) (fun x hx => ho.block _ (hb x hx)), fun x hx => ⟨(h.far x hx).1, (h.far x hx).2.keep (ho.block _ (hb x hx))⟩⟩
/-- A new variable is made and filled. -/
theorem OaSt.new {w0 w w' : World} {b : Nat} {x : Rd} {cv : Nat} {z : Int} {a1 : Option Addr} {n1 c1 : Nat} {M : List Int} {a2 : Option Addr} {X : List Int} (h : OaSt w0 w b x cv z a1 n1 c1 M a2 X) {o : Obj} (ho : One w.heap.size (w.alloc o) w') : OaSt w0 w' b x cv z a1 n1 c1 M a2 X := by
  have h1 := h.keep ((Below.refl w.heap.size w).alloc (Nat.le_refl _) o)
  have lt : ∀ {ad : Option Addr} {l : List Int}, NewI (b + 1) w ad l → ∀ y, ad = some y → y.block ≠ w.heap.size := fun hn y hy => Nat.ne_of_lt (hn.far y hy).2.lt
  exact ⟨h1.op.one ho h.op.bel.size (Nat.ne_of_lt (lt_of_blk h.op.rd)), h1.mem.oneL ho (lt h.mem), h1.cf.oneB ho (Nat.ne_of_lt (lt_of_blk h.cf)), h1.nxt.oneL ho (lt h.nxt), h.hcv⟩
theorem wl_build {o : Oper} {a : Act} {w : World} {ops : Array Oper} {rest : List Oper} {Q : Exit → Act → World → Prop} (hgd : o.guard = none) (t : TypeId) (parts : Array (Nat × Operand)) (ho : o.op = .build t parts) (ps : List (Nat × Value)) (hps : (parts.map fun (i, x) => (i, a.eval x)).toList = ps) (cells : Array Value) (hb : Tryz.prog.built t ps = some cells)
    (h : wpList Tryz.prog ops Q rest (a.put o.dst (.agg cells)) w) : wpList Tryz.prog ops Q (o :: rest) a w :=
  wpList_plain hgd fun _ hK => owp_build t parts ho ps hps cells hb (hK _ _ h)
set_option maxRecDepth 100000 in
set_option maxHeartbeats 12800000 in
theorem gopen_ok (t : ByteArray) (w : World) (h1 : oHead t = 76) (h2 : readB (oCt t) = true) (h3 : memB (oNx t) = true) (h4 : within t = true) (h5 : keysB (oIt t) = true) (h6 : (oDe t).all okD = true) (h7 : endOf (o8 t).s (o8 t).sh = 0) :
    Calls Tryz.prog 11 #[.string t] w fun e w' => ∃ v F, e = .returned (.tuple #[v, .int .i64 0]) ∧ LdAt F w' v (opS t) ∧ (∀ b, b ∈ F → w.heap.size ≤ b) ∧ Below w.heap.size w w' := by
  have HOk : Hid (LOk (opS t)) := hid (op_back (by rw [opnB, h1, h2, h3, h4, h5, h6, h7]; rfl)).1
  have HRd : Hid (∀ u : World, OpSt w u w.heap.size ⟨t, false⟩ → Calls Tryz.prog 36 #[.pointer (some ⟨w.heap.size, 0, none⟩)] u fun e w' => e = .returned (.int .i64 (oHead t : Int)) ∧ OpSt w w' w.heap.size (o1 t)) := hid (fun u hu => (rbyte_any _ _ _ u hu.rd).mono fun e w' ⟨he, hr, hk⟩ => ⟨he, hu.out (kept1 hk) hr⟩)
  have HTx : Hid (∀ u : World, OpSt w u w.heap.size (o1 t) → Calls Tryz.prog 38 #[.pointer (some ⟨w.heap.size, 0, none⟩)] u fun e w' => e = .returned (.string (oCt t)) ∧ OpSt w w' w.heap.size (o2 t)) := hid (fun u hu => (rtext_any _ _ _ u hu.rd).mono fun e w' ⟨he, hr, hk⟩ => ⟨he, hu.out (kept1 hk) hr⟩)
  have HCr : Hid (∀ u : World, Calls Tryz.prog 37 #[.string (oCt t)] u fun e w' => ∃ a1 c1, e = .returned (.tuple #[.agg #[.int .i64 (readZ (oCt t)), .slice a1 (readM (oCt t)).length c1], .int .i64 0]) ∧ NewI u.heap.size w' a1 (readM (oCt t)) ∧ Below u.heap.size u w') := hid (fun u => by
    refine (cread_any (oCt t) u).mono ?_
    rintro e w' ⟨v, rfl, hO⟩
    obtain ⟨ad, cap, rfl, hN⟩ := hO.new
    exact ⟨ad, cap, by first | rfl | (rw [show readE (oCt t) = 0 by rw [readE, h2]; rfl]), hN, hO.bel⟩)
  have g1 : (oHead t : Int) = 76 := by omega
  have HMb : Hid (∀ u : World, RdAt u w.heap.size (o2 t).s (o2 t).sh → Calls Tryz.prog 39 #[.pointer (some ⟨w.heap.size, 0, none⟩)] u fun e w' => ∃ a2 n2 c2, e = .returned (.tuple #[.slice a2 n2 c2, .bool true]) ∧ n2 = (oNx t).length ∧ NewI u.heap.size w' a2 (oNx t) ∧ RdAt w' w.heap.size (o4 t).s (o4 t).sh ∧ Out [w.heap.size] u w') := hid (fun u hu => by
    have := greadMembers_any w.heap.size (o2 t) u hu
    rw [show memB (rdL ((o2 t).num 1).s ((o2 t).num 1).sh (rN (o2 t).s (o2 t).sh 1)) = true from h3] at this; exact this)
  have HLg : Hid (∀ u : World, RdAt u w.heap.size (o4 t).s (o4 t).sh → Calls Tryz.prog 40 #[.pointer (some ⟨w.heap.size, 0, none⟩)] u fun e w' => e = .returned (.int .i64 (oDn t : Int)) ∧ RdAt w' w.heap.size (o5 t).s (o5 t).sh ∧ Out [w.heap.size] u w') := hid (fun u hu => (rlong_any _ _ _ u hu).mono fun e w' ⟨he, hr, hk⟩ => ⟨he, hr, kept1 hk⟩)
  have HKy : Hid (∀ u : World, RdAt u w.heap.size (o5 t).s (o5 t).sh → Calls Tryz.prog 41 #[.pointer (some ⟨w.heap.size, 0, none⟩)] u fun e w' => ∃ m, e = .returned (.tuple #[.map (some m), .bool true]) ∧ KmAt w' m (oIt t) ∧ u.heap.size ≤ m ∧ RdAt w' w.heap.size (o7 t).s (o7 t).sh ∧ Out [w.heap.size] u w') := hid (fun u hu => greadKeys_yes w.heap.size (o5 t) u hu h5)
  have HLs : Hid (∀ u : World, RdAt u w.heap.size (o7 t).s (o7 t).sh → Calls Tryz.prog 42 #[.pointer (some ⟨w.heap.size, 0, none⟩)] u fun e w' => e = .returned (.tuple #[.agg (deC ((oDe t).map deOf)).toArray, .bool true]) ∧ RdAt w' w.heap.size (o8 t).s (o8 t).sh ∧ Out [w.heap.size] u w') := hid (fun u hu => by
    have := greadLast_any w.heap.size (o7 t) u hu
    rw [show (rdDl (o7 t) 8).all okD = true from h6] at this
    exact this)
  have hrt := text_read (oCt t) h2
  have hz : ((readZ (oCt t)).toNat : Int) = readZ (oCt t) := by have := (rightC_ep hrt.1).1; omega
  have HWi : Hid (∀ u : World, Calls Tryz.prog 43 #[.int .i64 (readZ (oCt t)), .int .i64 (oDn t : Int)] u fun e w' => e = .returned (.bool true) ∧ Below u.heap.size u w') := hid (fun u => by
    have := gisWithin_any (readZ (oCt t)).toNat (by have := (rightC_ep hrt.1).1; omega) (oDn t) u
    rw [hz, show (decide (4 * (readZ (oCt t)).toNat ≤ oDn t) && decide (oDn t ≤ 4 * ((readZ (oCt t)).toNat + 1))) = true from h4] at this
    exact this)
  have HZ := hid hz
  clear hrt hz
  have HEn : Hid (∀ u : World, RdAt u w.heap.size (o8 t).s (o8 t).sh → Calls Tryz.prog 44 #[.pointer (some ⟨w.heap.size, 0, none⟩)] u fun e w' => e = .returned (.int .i64 0) ∧ w' = u) := hid (fun u hu => by have := end_any _ _ _ u hu; rw [h7] at this; exact this)
  have hD8 : ((oDe t).map deOf).length = 8 := by rw [List.length_map]; exact rdDl_len _ 8
  have HD8 := hid hD8
  obtain ⟨HH, eHH⟩ : ∃ HH : Int, HH = (oHead t : Int) := ⟨_, rfl⟩
  rw [← eHH] at HRd g1
  obtain ⟨DN, eDN⟩ : ∃ DN : Int, DN = (oDn t : Int) := ⟨_, rfl⟩
  rw [← eDN] at HLg HWi
  have HDN := hid eDN
  clear hD8 eHH eDN h1 h2 h3 h4 h5 h6 h7
  subst g1
  have H0 : Hid (OpSt w (w.alloc (.cells #[.string t, .bool false] 121)) w.heap.size ⟨t, false⟩) := hid ⟨heap_alloc_last w _, (Below.refl _ _).alloc (Nat.le_refl _) _, Nat.le_refl _⟩
  obtain ⟨b, eb⟩ : ∃ b, b = w.heap.size := ⟨_, rfl⟩
  rw [← eb] at H0 HRd HTx HMb HLg HKy HLs HEn
  have HBb := hid eb
  clear eb
  go_enter Tryz.func11, Tryz.ntmps11
  go_wp2_with (first
    | (have := T10; refine wl_box_agg rfl _ _ rfl (ldC (readZ (oCt t)) (.slice a1 (readM (oCt t)).length c1) (.slice a2 n2 c2) DN (.map (some m)) ((oDe t).map deOf)).toArray rfl ?_)
    | (have := T10; refine wl_build rfl _ _ rfl [(0, .agg #[.int .i64 (readZ (oCt t)), .slice a1 (readM (oCt t)).length c1]), (1, .slice a2 n2 c2), (2, .int .i64 DN), (3, .map (some m)), (4, .agg (deC ((oDe t).map deOf)).toArray)] (by first | (simp [Act.eval]; done) | (go_simp; done)) (ldC (readZ (oCt t)) (.slice a1 (readM (oCt t)).length c1) (.slice a2 n2 c2) DN (.map (some m)) ((oDe t).map deOf)).toArray (built_ledger HD8.out ..) ?_)
    | (have := T10; refine wpList_load_mid rfl 70 _ rfl w7.heap.size 0 rfl (deC ((oDe t).map deOf)) _ H9.out.2.2.2.range Tryz.underlying70 rfl (by rw [deC_len, HD8.out]; kernel_rfl) ?_)
    | (go_at_call 44; have := H9; refine (HEn.out _ H9.out.1.op.rd).mono ?_; rintro e w10 ⟨rfl, hw10⟩; replace hw10 := hw10.symm; subst hw10; have T10 := hid True.intro)
    | (go_at_call 43; have := H8; refine (HWi.out _).mono ?_; rintro e w9 ⟨rfl, hb9⟩; have H9 : Hid (OaSt w w9 b (o8 t) cv (readZ (oCt t)) a1 (readM (oCt t)).length c1 (readM (oCt t)) a2 (oNx t) ∧ KmAt w9 m (oIt t) ∧ b < m ∧ DaAt w9 w7.heap.size ((oDe t).map deOf)) := hid ⟨H8.out.1.keep hb9, H8.out.2.1.below hb9, H8.out.2.2.1, H8.out.2.2.2.keep hb9⟩; clear hb9 q0 q1; obtain ⟨q0, q1⟩ := H9.out.1.cf.cells)
    | (have := H7; refine wl_store_all rfl _ _ rfl w7.heap.size (List.replicate 8 (0, 0, 0)) ((oDe t).map deOf) rfl HD8.out rfl rfl (da_new w7) ?_; intro w8 Hq; have H8 : Hid (OaSt w w8 b (o8 t) cv (readZ (oCt t)) a1 (readM (oCt t)).length c1 (readM (oCt t)) a2 (oNx t) ∧ KmAt w8 m (oIt t) ∧ b < m ∧ DaAt w8 w7.heap.size ((oDe t).map deOf)) := hid ⟨H7.out.1.new Hq.out.2, (H7.out.2.1.below ((Below.refl w7.heap.size w7).alloc (Nat.le_refl _) (.cells (deC (List.replicate 8 (0, 0, 0))).toArray 70))).keep (Hq.out.2.block _ (Nat.ne_of_lt H7.out.2.1.lt)), H7.out.2.2, Hq.out.1⟩; clear Hq; obtain ⟨q0, q1⟩ := H8.out.1.cf.cells)
    | (go_at_call 42; have := H6; refine (HLs.out _ H6.out.1.op.rd).mono ?_; rintro e w7 ⟨rfl, hr, ho⟩; have H7 : Hid (OaSt w w7 b (o8 t) cv (readZ (oCt t)) a1 (readM (oCt t)).length c1 (readM (oCt t)) a2 (oNx t) ∧ KmAt w7 m (oIt t) ∧ b < m) := hid ⟨H6.out.1.out ho hr, H6.out.2.1.outB ho (Nat.ne_of_gt H6.out.2.2), H6.out.2.2⟩; clear hr ho)
    | (go_at_call 41; have := H5; refine (HKy.out _ H5.out.op.rd).mono ?_; rintro e w6 ⟨m, rfl, hk, hm, hr, ho⟩; have H6 : Hid (OaSt w w6 b (o7 t) cv (readZ (oCt t)) a1 (readM (oCt t)).length c1 (readM (oCt t)) a2 (oNx t) ∧ KmAt w6 m (oIt t) ∧ b < m) := hid ⟨H5.out.out ho hr, hk, Nat.lt_of_lt_of_le (lt_of_blk H5.out.op.rd) hm⟩; clear hk hm hr ho)
    | (go_at_call 40; have := H4; refine (HLg.out _ H4.out.1.op.rd).mono ?_; rintro e w5 ⟨rfl, hr, ho⟩; have H5 := hid (H4.out.1.out ho hr); clear hr ho)
    | (go_at_call 39; have := H3b; refine (HMb.out _ H3b.out.1.rd).mono ?_; rintro e w4 ⟨a2, n2, c2, rfl, hn2, hN, hr, ho⟩; have H4 : Hid (OaSt w w4 b (o4 t) cv (readZ (oCt t)) a1 (readM (oCt t)).length c1 (readM (oCt t)) a2 (oNx t) ∧ n2 = (oNx t).length) := hid ⟨⟨H3b.out.1.out ho hr, H3b.out.2.1.outB ho (Nat.lt_succ_self _), H3b.out.2.2.1.outB ho (Nat.ne_of_gt H3b.out.2.2.2), hN.lowB (lt_of_blk H3b.out.1.rd), H3b.out.2.2.2⟩, hn2⟩; clear hN hr ho hn2; rw [← HCv.out]; clear H3 H3b)
    | (go_at_call 37; have := H2; refine (HCr.out _).mono ?_; rintro e w3 ⟨a1, c1, rfl, hN, hb3⟩; have H3 : Hid (OpSt w w3 b (o2 t) ∧ NewI (b + 1) w3 a1 (readM (oCt t)) ∧ b < w3.heap.size) := hid ⟨H2.out.keep hb3, hN.lowB (lt_of_blk H2.out.rd), Nat.lt_of_lt_of_le (lt_of_blk H2.out.rd) hb3.size⟩; clear hN hb3; obtain ⟨cv, ecv⟩ : ∃ cv, cv = w3.heap.size := ⟨_, rfl⟩; have hax3 := (Below.refl w3.heap.size w3).alloc (Nat.le_refl _) (.cells #[.int .i64 (readZ (oCt t)), .slice a1 (readM (oCt t)).length c1] 24); have H3b : Hid (OpSt w (w3.alloc (.cells #[.int .i64 (readZ (oCt t)), .slice a1 (readM (oCt t)).length c1] 24)) b (o2 t) ∧ NewI (b + 1) (w3.alloc (.cells #[.int .i64 (readZ (oCt t)), .slice a1 (readM (oCt t)).length c1] 24)) a1 (readM (oCt t)) ∧ GfAt (w3.alloc (.cells #[.int .i64 (readZ (oCt t)), .slice a1 (readM (oCt t)).length c1] 24)) cv (readZ (oCt t)) (.slice a1 (readM (oCt t)).length c1) ∧ b < cv) := hid ⟨H3.out.1.keep hax3, H3.out.2.1.keep hax3, by rw [ecv]; exact heap_alloc_last w3 _, by rw [ecv]; exact H3.out.2.2⟩; clear hax3; have HCv := hid ecv; clear ecv)
    | (go_at_call 38; have := H1; refine (HTx.out _ H1.out).mono ?_; rintro e w2 ⟨rfl, h2⟩; have H2 := hid h2; clear h2)
    | (go_at_call 36; refine (HRd.out _ H0.out).mono ?_; rintro e w1 ⟨rfl, h1⟩; have H1 := hid h1; clear h1)
    | (go_at_call 35; refine (read_any _ _).mono ?_; rintro e w0 ⟨rfl, hw0⟩; rw [← HBb.out]; rw [← hw0] at H0; clear hw0))
  go_ret2
  have hb := (Below.refl w9.heap.size w9).alloc (Nat.le_refl _) (.cells (ldC (readZ (oCt t)) (.slice a1 (readM (oCt t)).length c1) (.slice a2 n2 c2) DN (.map (some m)) ((oDe t).map deOf)).toArray 72)
  have h1 := H9.out.1
  have hmk := ld_make (s := opS t) (c1 := c1) (c2 := c2) (B := w.heap.size) (h1.mem.lowB (by have := HBb.out; omega)) (h1.nxt.lowB (by have := HBb.out; omega)) H9.out.2.1 (by have := H9.out.2.2.1; have := HBb.out; omega) h1.op.bel.size HOk.out
  obtain ⟨F, hF1, hF2⟩ := hmk
  refine ⟨_, F, rfl, ?_, hF2, h1.op.bel.trans (hb.mono h1.op.bel.size)⟩
  rw [H4.out.2, HDN.out, ← HZ.out]
  exact hF1
set_option maxRecDepth 100000 in
set_option maxHeartbeats 12800000 in
theorem gopen_no1 (t : ByteArray) (w : World) (h1 : ¬ (oHead t = 76)) :
    Calls Tryz.prog 11 #[.string t] w fun e w' => e = .returned (.tuple #[.pointer none, .int .i64 5]) ∧ Below w.heap.size w w' := by
  have HRd : Hid (∀ u : World, OpSt w u w.heap.size ⟨t, false⟩ → Calls Tryz.prog 36 #[.pointer (some ⟨w.heap.size, 0, none⟩)] u fun e w' => e = .returned (.int .i64 (oHead t : Int)) ∧ OpSt w w' w.heap.size (o1 t)) := hid (fun u hu => (rbyte_any _ _ _ u hu.rd).mono fun e w' ⟨he, hr, hk⟩ => ⟨he, hu.out (kept1 hk) hr⟩)
  have HTx : Hid (∀ u : World, OpSt w u w.heap.size (o1 t) → Calls Tryz.prog 38 #[.pointer (some ⟨w.heap.size, 0, none⟩)] u fun e w' => e = .returned (.string (oCt t)) ∧ OpSt w w' w.heap.size (o2 t)) := hid (fun u hu => (rtext_any _ _ _ u hu.rd).mono fun e w' ⟨he, hr, hk⟩ => ⟨he, hu.out (kept1 hk) hr⟩)
  have HCr : Hid (∀ u : World, Calls Tryz.prog 37 #[.string (oCt t)] u fun e w' => ∃ a1 c1, e = .returned (.tuple #[.agg #[.int .i64 (readZ (oCt t)), .slice a1 (readM (oCt t)).length c1], .int .i64 (readE (oCt t))]) ∧ NewI u.heap.size w' a1 (readM (oCt t)) ∧ Below u.heap.size u w') := hid (fun u => by
    refine (cread_any (oCt t) u).mono ?_
    rintro e w' ⟨v, rfl, hO⟩
    obtain ⟨ad, cap, rfl, hN⟩ := hO.new
    exact ⟨ad, cap, by first | rfl | rfl, hN, hO.bel⟩)
  have g1 : ((oHead t : Int) == 76) = false := by simpa using (fun e => h1 (by omega))
  have g1b : ¬ ((oHead t : Int) = 76) := by omega
  have HMb : Hid (∀ u : World, RdAt u w.heap.size (o2 t).s (o2 t).sh → Calls Tryz.prog 39 #[.pointer (some ⟨w.heap.size, 0, none⟩)] u fun e w' => ∃ a2 n2 c2, e = .returned (.tuple #[.slice a2 n2 c2, .bool (memB (oNx t))]) ∧ n2 = (oNx t).length ∧ NewI u.heap.size w' a2 (oNx t) ∧ RdAt w' w.heap.size (o4 t).s (o4 t).sh ∧ Out [w.heap.size] u w') := hid (fun u hu => by
    have := greadMembers_any w.heap.size (o2 t) u hu
    exact this)
  have HLg : Hid (∀ u : World, RdAt u w.heap.size (o4 t).s (o4 t).sh → Calls Tryz.prog 40 #[.pointer (some ⟨w.heap.size, 0, none⟩)] u fun e w' => e = .returned (.int .i64 (oDn t : Int)) ∧ RdAt w' w.heap.size (o5 t).s (o5 t).sh ∧ Out [w.heap.size] u w') := hid (fun u hu => (rlong_any _ _ _ u hu).mono fun e w' ⟨he, hr, hk⟩ => ⟨he, hr, kept1 hk⟩)
  have HKy : Hid (∀ u : World, RdAt u w.heap.size (o5 t).s (o5 t).sh → Calls Tryz.prog 41 #[.pointer (some ⟨w.heap.size, 0, none⟩)] u fun e w' => ∃ (mo : Option Nat) (kb : Bool), e = .returned (.tuple #[.map mo, .bool kb]) ∧ (∃ z : Rd, RdAt w' w.heap.size z.s z.sh) ∧ Out [w.heap.size] u w') := hid (fun u hu => greadKeys_gen w.heap.size (o5 t) u hu)
  have hD8 : ((oDe t).map deOf).length = 8 := by rw [List.length_map]; exact rdDl_len _ 8
  have HD8 := hid hD8
  obtain ⟨HH, eHH⟩ : ∃ HH : Int, HH = (oHead t : Int) := ⟨_, rfl⟩
  rw [← eHH] at HRd g1 g1b
  obtain ⟨DN, eDN⟩ : ∃ DN : Int, DN = (oDn t : Int) := ⟨_, rfl⟩
  rw [← eDN] at HLg
  clear hD8 eHH eDN h1
  generalize readE (oCt t) = re at HCr
  have H0 : Hid (OpSt w (w.alloc (.cells #[.string t, .bool false] 121)) w.heap.size ⟨t, false⟩) := hid ⟨heap_alloc_last w _, (Below.refl _ _).alloc (Nat.le_refl _) _, Nat.le_refl _⟩
  obtain ⟨b, eb⟩ : ∃ b, b = w.heap.size := ⟨_, rfl⟩
  rw [← eb] at H0 HRd HTx HMb HLg HKy
  have HBb := hid eb
  generalize memB (oNx t) = mbv at HMb
  clear eb
  go_enter Tryz.func11, Tryz.ntmps11
  go_wp2_with (first
    | (have := H7; refine wl_store_all rfl _ _ rfl w7.heap.size (List.replicate 8 (0, 0, 0)) ((rdDl z 8).map deOf) rfl HD9.out rfl rfl (da_new w7) ?_; intro w8 Hq; have H8 := hid (H7.out.new Hq.out.2); clear Hq; obtain ⟨q0, q1⟩ := H8.out.cf.cells)
    | (go_at_call 42; have := H6; refine (greadLast_any _ _ _ H6.out.op.rd).mono ?_; rintro e w7 ⟨rfl, hr, ho⟩; have H7 := hid (H6.out.out ho hr); have HD9 : Hid (((rdDl z 8).map deOf).length = 8) := hid (by rw [List.length_map, rdDl_len]); clear hr ho)
    | (go_at_call 41; have := H5; refine (HKy.out _ H5.out.op.rd).mono ?_; rintro e w6 ⟨mo, kb, rfl, ⟨z, hr⟩, ho⟩; have H6 := hid (H5.out.out ho hr); clear hr ho)
    | (go_at_call 40; have := H4; refine (HLg.out _ H4.out.1.op.rd).mono ?_; rintro e w5 ⟨rfl, hr, ho⟩; have H5 := hid (H4.out.1.out ho hr); clear hr ho)
    | (go_at_call 39; have := H3b; refine (HMb.out _ H3b.out.1.rd).mono ?_; rintro e w4 ⟨a2, n2, c2, rfl, hn2, hN, hr, ho⟩; have H4 : Hid (OaSt w w4 b (o4 t) cv (readZ (oCt t)) a1 (readM (oCt t)).length c1 (readM (oCt t)) a2 (oNx t) ∧ n2 = (oNx t).length) := hid ⟨⟨H3b.out.1.out ho hr, H3b.out.2.1.outB ho (Nat.lt_succ_self _), H3b.out.2.2.1.outB ho (Nat.ne_of_gt H3b.out.2.2.2), hN.lowB (lt_of_blk H3b.out.1.rd), H3b.out.2.2.2⟩, hn2⟩; clear hN hr ho hn2; rw [← HCv.out]; clear H3 H3b)
    | (go_at_call 37; have := H2; refine (HCr.out _).mono ?_; rintro e w3 ⟨a1, c1, rfl, hN, hb3⟩; have H3 : Hid (OpSt w w3 b (o2 t) ∧ NewI (b + 1) w3 a1 (readM (oCt t)) ∧ b < w3.heap.size) := hid ⟨H2.out.keep hb3, hN.lowB (lt_of_blk H2.out.rd), Nat.lt_of_lt_of_le (lt_of_blk H2.out.rd) hb3.size⟩; clear hN hb3; obtain ⟨cv, ecv⟩ : ∃ cv, cv = w3.heap.size := ⟨_, rfl⟩; have hax3 := (Below.refl w3.heap.size w3).alloc (Nat.le_refl _) (.cells #[.int .i64 (readZ (oCt t)), .slice a1 (readM (oCt t)).length c1] 24); have H3b : Hid (OpSt w (w3.alloc (.cells #[.int .i64 (readZ (oCt t)), .slice a1 (readM (oCt t)).length c1] 24)) b (o2 t) ∧ NewI (b + 1) (w3.alloc (.cells #[.int .i64 (readZ (oCt t)), .slice a1 (readM (oCt t)).length c1] 24)) a1 (readM (oCt t)) ∧ GfAt (w3.alloc (.cells #[.int .i64 (readZ (oCt t)), .slice a1 (readM (oCt t)).length c1] 24)) cv (readZ (oCt t)) (.slice a1 (readM (oCt t)).length c1) ∧ b < cv) := hid ⟨H3.out.1.keep hax3, H3.out.2.1.keep hax3, by rw [ecv]; exact heap_alloc_last w3 _, by rw [ecv]; exact H3.out.2.2⟩; clear hax3; have HCv := hid ecv; clear ecv)
    | (go_at_call 38; have := H1; refine (HTx.out _ H1.out).mono ?_; rintro e w2 ⟨rfl, h2⟩; have H2 := hid h2; clear h2)
    | (go_at_call 36; refine (HRd.out _ H0.out).mono ?_; rintro e w1 ⟨rfl, h1⟩; have H1 := hid h1; clear h1)
    | (go_at_call 35; refine (read_any _ _).mono ?_; rintro e w0 ⟨rfl, hw0⟩; rw [← HBb.out]; rw [← hw0] at H0; clear hw0))
  go_ret2
  exact ⟨rfl, H8.out.op.bel⟩
set_option maxRecDepth 100000 in
set_option maxHeartbeats 12800000 in
theorem gopen_no2 (t : ByteArray) (w : World) (h1 : oHead t = 76) (h2 : readB (oCt t) = false) :
    Calls Tryz.prog 11 #[.string t] w fun e w' => e = .returned (.tuple #[.pointer none, .int .i64 5]) ∧ Below w.heap.size w w' := by
  have HRd : Hid (∀ u : World, OpSt w u w.heap.size ⟨t, false⟩ → Calls Tryz.prog 36 #[.pointer (some ⟨w.heap.size, 0, none⟩)] u fun e w' => e = .returned (.int .i64 (oHead t : Int)) ∧ OpSt w w' w.heap.size (o1 t)) := hid (fun u hu => (rbyte_any _ _ _ u hu.rd).mono fun e w' ⟨he, hr, hk⟩ => ⟨he, hu.out (kept1 hk) hr⟩)
  have HTx : Hid (∀ u : World, OpSt w u w.heap.size (o1 t) → Calls Tryz.prog 38 #[.pointer (some ⟨w.heap.size, 0, none⟩)] u fun e w' => e = .returned (.string (oCt t)) ∧ OpSt w w' w.heap.size (o2 t)) := hid (fun u hu => (rtext_any _ _ _ u hu.rd).mono fun e w' ⟨he, hr, hk⟩ => ⟨he, hu.out (kept1 hk) hr⟩)
  have HCr : Hid (∀ u : World, Calls Tryz.prog 37 #[.string (oCt t)] u fun e w' => ∃ a1 c1, e = .returned (.tuple #[.agg #[.int .i64 (readZ (oCt t)), .slice a1 (readM (oCt t)).length c1], .int .i64 5]) ∧ NewI u.heap.size w' a1 (readM (oCt t)) ∧ Below u.heap.size u w') := hid (fun u => by
    refine (cread_any (oCt t) u).mono ?_
    rintro e w' ⟨v, rfl, hO⟩
    obtain ⟨ad, cap, rfl, hN⟩ := hO.new
    exact ⟨ad, cap, by first | rfl | (rw [show readE (oCt t) = 5 by rw [readE, h2]; rfl]), hN, hO.bel⟩)
  have g1 : (oHead t : Int) = 76 := by omega
  have HMb : Hid (∀ u : World, RdAt u w.heap.size (o2 t).s (o2 t).sh → Calls Tryz.prog 39 #[.pointer (some ⟨w.heap.size, 0, none⟩)] u fun e w' => ∃ a2 n2 c2, e = .returned (.tuple #[.slice a2 n2 c2, .bool (memB (oNx t))]) ∧ n2 = (oNx t).length ∧ NewI u.heap.size w' a2 (oNx t) ∧ RdAt w' w.heap.size (o4 t).s (o4 t).sh ∧ Out [w.heap.size] u w') := hid (fun u hu => by
    have := greadMembers_any w.heap.size (o2 t) u hu
    exact this)
  have HLg : Hid (∀ u : World, RdAt u w.heap.size (o4 t).s (o4 t).sh → Calls Tryz.prog 40 #[.pointer (some ⟨w.heap.size, 0, none⟩)] u fun e w' => e = .returned (.int .i64 (oDn t : Int)) ∧ RdAt w' w.heap.size (o5 t).s (o5 t).sh ∧ Out [w.heap.size] u w') := hid (fun u hu => (rlong_any _ _ _ u hu).mono fun e w' ⟨he, hr, hk⟩ => ⟨he, hr, kept1 hk⟩)
  have HKy : Hid (∀ u : World, RdAt u w.heap.size (o5 t).s (o5 t).sh → Calls Tryz.prog 41 #[.pointer (some ⟨w.heap.size, 0, none⟩)] u fun e w' => ∃ (mo : Option Nat) (kb : Bool), e = .returned (.tuple #[.map mo, .bool kb]) ∧ (∃ z : Rd, RdAt w' w.heap.size z.s z.sh) ∧ Out [w.heap.size] u w') := hid (fun u hu => greadKeys_gen w.heap.size (o5 t) u hu)
  have hD8 : ((oDe t).map deOf).length = 8 := by rw [List.length_map]; exact rdDl_len _ 8
  have HD8 := hid hD8
  obtain ⟨HH, eHH⟩ : ∃ HH : Int, HH = (oHead t : Int) := ⟨_, rfl⟩
  rw [← eHH] at HRd g1
  obtain ⟨DN, eDN⟩ : ∃ DN : Int, DN = (oDn t : Int) := ⟨_, rfl⟩
  rw [← eDN] at HLg
  clear hD8 eHH eDN h1 h2
  subst g1
  have H0 : Hid (OpSt w (w.alloc (.cells #[.string t, .bool false] 121)) w.heap.size ⟨t, false⟩) := hid ⟨heap_alloc_last w _, (Below.refl _ _).alloc (Nat.le_refl _) _, Nat.le_refl _⟩
  obtain ⟨b, eb⟩ : ∃ b, b = w.heap.size := ⟨_, rfl⟩
  rw [← eb] at H0 HRd HTx HMb HLg HKy
  have HBb := hid eb
  generalize memB (oNx t) = mbv at HMb
  clear eb
  go_enter Tryz.func11, Tryz.ntmps11
  go_wp2_with (first
    | (have := H7; refine wl_store_all rfl _ _ rfl w7.heap.size (List.replicate 8 (0, 0, 0)) ((rdDl z 8).map deOf) rfl HD9.out rfl rfl (da_new w7) ?_; intro w8 Hq; have H8 := hid (H7.out.new Hq.out.2); clear Hq; obtain ⟨q0, q1⟩ := H8.out.cf.cells)
    | (go_at_call 42; have := H6; refine (greadLast_any _ _ _ H6.out.op.rd).mono ?_; rintro e w7 ⟨rfl, hr, ho⟩; have H7 := hid (H6.out.out ho hr); have HD9 : Hid (((rdDl z 8).map deOf).length = 8) := hid (by rw [List.length_map, rdDl_len]); clear hr ho)
    | (go_at_call 41; have := H5; refine (HKy.out _ H5.out.op.rd).mono ?_; rintro e w6 ⟨mo, kb, rfl, ⟨z, hr⟩, ho⟩; have H6 := hid (H5.out.out ho hr); clear hr ho)
    | (go_at_call 40; have := H4; refine (HLg.out _ H4.out.1.op.rd).mono ?_; rintro e w5 ⟨rfl, hr, ho⟩; have H5 := hid (H4.out.1.out ho hr); clear hr ho)
    | (go_at_call 39; have := H3b; refine (HMb.out _ H3b.out.1.rd).mono ?_; rintro e w4 ⟨a2, n2, c2, rfl, hn2, hN, hr, ho⟩; have H4 : Hid (OaSt w w4 b (o4 t) cv (readZ (oCt t)) a1 (readM (oCt t)).length c1 (readM (oCt t)) a2 (oNx t) ∧ n2 = (oNx t).length) := hid ⟨⟨H3b.out.1.out ho hr, H3b.out.2.1.outB ho (Nat.lt_succ_self _), H3b.out.2.2.1.outB ho (Nat.ne_of_gt H3b.out.2.2.2), hN.lowB (lt_of_blk H3b.out.1.rd), H3b.out.2.2.2⟩, hn2⟩; clear hN hr ho hn2; rw [← HCv.out]; clear H3 H3b)
    | (go_at_call 37; have := H2; refine (HCr.out _).mono ?_; rintro e w3 ⟨a1, c1, rfl, hN, hb3⟩; have H3 : Hid (OpSt w w3 b (o2 t) ∧ NewI (b + 1) w3 a1 (readM (oCt t)) ∧ b < w3.heap.size) := hid ⟨H2.out.keep hb3, hN.lowB (lt_of_blk H2.out.rd), Nat.lt_of_lt_of_le (lt_of_blk H2.out.rd) hb3.size⟩; clear hN hb3; obtain ⟨cv, ecv⟩ : ∃ cv, cv = w3.heap.size := ⟨_, rfl⟩; have hax3 := (Below.refl w3.heap.size w3).alloc (Nat.le_refl _) (.cells #[.int .i64 (readZ (oCt t)), .slice a1 (readM (oCt t)).length c1] 24); have H3b : Hid (OpSt w (w3.alloc (.cells #[.int .i64 (readZ (oCt t)), .slice a1 (readM (oCt t)).length c1] 24)) b (o2 t) ∧ NewI (b + 1) (w3.alloc (.cells #[.int .i64 (readZ (oCt t)), .slice a1 (readM (oCt t)).length c1] 24)) a1 (readM (oCt t)) ∧ GfAt (w3.alloc (.cells #[.int .i64 (readZ (oCt t)), .slice a1 (readM (oCt t)).length c1] 24)) cv (readZ (oCt t)) (.slice a1 (readM (oCt t)).length c1) ∧ b < cv) := hid ⟨H3.out.1.keep hax3, H3.out.2.1.keep hax3, by rw [ecv]; exact heap_alloc_last w3 _, by rw [ecv]; exact H3.out.2.2⟩; clear hax3; have HCv := hid ecv; clear ecv)
    | (go_at_call 38; have := H1; refine (HTx.out _ H1.out).mono ?_; rintro e w2 ⟨rfl, h2⟩; have H2 := hid h2; clear h2)
    | (go_at_call 36; refine (HRd.out _ H0.out).mono ?_; rintro e w1 ⟨rfl, h1⟩; have H1 := hid h1; clear h1)
    | (go_at_call 35; refine (read_any _ _).mono ?_; rintro e w0 ⟨rfl, hw0⟩; rw [← HBb.out]; rw [← hw0] at H0; clear hw0))
  go_ret2
  exact ⟨rfl, H8.out.op.bel⟩
set_option maxRecDepth 100000 in
set_option maxHeartbeats 12800000 in
theorem gopen_no3 (t : ByteArray) (w : World) (h1 : oHead t = 76) (h2 : readB (oCt t) = true) (h3 : memB (oNx t) = false) :
    Calls Tryz.prog 11 #[.string t] w fun e w' => e = .returned (.tuple #[.pointer none, .int .i64 5]) ∧ Below w.heap.size w w' := by
  have HRd : Hid (∀ u : World, OpSt w u w.heap.size ⟨t, false⟩ → Calls Tryz.prog 36 #[.pointer (some ⟨w.heap.size, 0, none⟩)] u fun e w' => e = .returned (.int .i64 (oHead t : Int)) ∧ OpSt w w' w.heap.size (o1 t)) := hid (fun u hu => (rbyte_any _ _ _ u hu.rd).mono fun e w' ⟨he, hr, hk⟩ => ⟨he, hu.out (kept1 hk) hr⟩)
  have HTx : Hid (∀ u : World, OpSt w u w.heap.size (o1 t) → Calls Tryz.prog 38 #[.pointer (some ⟨w.heap.size, 0, none⟩)] u fun e w' => e = .returned (.string (oCt t)) ∧ OpSt w w' w.heap.size (o2 t)) := hid (fun u hu => (rtext_any _ _ _ u hu.rd).mono fun e w' ⟨he, hr, hk⟩ => ⟨he, hu.out (kept1 hk) hr⟩)
  have HCr : Hid (∀ u : World, Calls Tryz.prog 37 #[.string (oCt t)] u fun e w' => ∃ a1 c1, e = .returned (.tuple #[.agg #[.int .i64 (readZ (oCt t)), .slice a1 (readM (oCt t)).length c1], .int .i64 0]) ∧ NewI u.heap.size w' a1 (readM (oCt t)) ∧ Below u.heap.size u w') := hid (fun u => by
    refine (cread_any (oCt t) u).mono ?_
    rintro e w' ⟨v, rfl, hO⟩
    obtain ⟨ad, cap, rfl, hN⟩ := hO.new
    exact ⟨ad, cap, by first | rfl | (rw [show readE (oCt t) = 0 by rw [readE, h2]; rfl]), hN, hO.bel⟩)
  have g1 : (oHead t : Int) = 76 := by omega
  have HMb : Hid (∀ u : World, RdAt u w.heap.size (o2 t).s (o2 t).sh → Calls Tryz.prog 39 #[.pointer (some ⟨w.heap.size, 0, none⟩)] u fun e w' => ∃ a2 n2 c2, e = .returned (.tuple #[.slice a2 n2 c2, .bool false]) ∧ n2 = (oNx t).length ∧ NewI u.heap.size w' a2 (oNx t) ∧ RdAt w' w.heap.size (o4 t).s (o4 t).sh ∧ Out [w.heap.size] u w') := hid (fun u hu => by
    have := greadMembers_any w.heap.size (o2 t) u hu
    rw [show memB (rdL ((o2 t).num 1).s ((o2 t).num 1).sh (rN (o2 t).s (o2 t).sh 1)) = false from h3] at this; exact this)
  have HLg : Hid (∀ u : World, RdAt u w.heap.size (o4 t).s (o4 t).sh → Calls Tryz.prog 40 #[.pointer (some ⟨w.heap.size, 0, none⟩)] u fun e w' => e = .returned (.int .i64 (oDn t : Int)) ∧ RdAt w' w.heap.size (o5 t).s (o5 t).sh ∧ Out [w.heap.size] u w') := hid (fun u hu => (rlong_any _ _ _ u hu).mono fun e w' ⟨he, hr, hk⟩ => ⟨he, hr, kept1 hk⟩)
  have HKy : Hid (∀ u : World, RdAt u w.heap.size (o5 t).s (o5 t).sh → Calls Tryz.prog 41 #[.pointer (some ⟨w.heap.size, 0, none⟩)] u fun e w' => ∃ (mo : Option Nat) (kb : Bool), e = .returned (.tuple #[.map mo, .bool kb]) ∧ (∃ z : Rd, RdAt w' w.heap.size z.s z.sh) ∧ Out [w.heap.size] u w') := hid (fun u hu => greadKeys_gen w.heap.size (o5 t) u hu)
  have hD8 : ((oDe t).map deOf).length = 8 := by rw [List.length_map]; exact rdDl_len _ 8
  have HD8 := hid hD8
  obtain ⟨HH, eHH⟩ : ∃ HH : Int, HH = (oHead t : Int) := ⟨_, rfl⟩
  rw [← eHH] at HRd g1
  obtain ⟨DN, eDN⟩ : ∃ DN : Int, DN = (oDn t : Int) := ⟨_, rfl⟩
  rw [← eDN] at HLg
  clear hD8 eHH eDN h1 h2 h3
  subst g1
  have H0 : Hid (OpSt w (w.alloc (.cells #[.string t, .bool false] 121)) w.heap.size ⟨t, false⟩) := hid ⟨heap_alloc_last w _, (Below.refl _ _).alloc (Nat.le_refl _) _, Nat.le_refl _⟩
  obtain ⟨b, eb⟩ : ∃ b, b = w.heap.size := ⟨_, rfl⟩
  rw [← eb] at H0 HRd HTx HMb HLg HKy
  have HBb := hid eb
  clear eb
  go_enter Tryz.func11, Tryz.ntmps11
  go_wp2_with (first
    | (have := H7; refine wl_store_all rfl _ _ rfl w7.heap.size (List.replicate 8 (0, 0, 0)) ((rdDl z 8).map deOf) rfl HD9.out rfl rfl (da_new w7) ?_; intro w8 Hq; have H8 := hid (H7.out.new Hq.out.2); clear Hq; obtain ⟨q0, q1⟩ := H8.out.cf.cells)
    | (go_at_call 42; have := H6; refine (greadLast_any _ _ _ H6.out.op.rd).mono ?_; rintro e w7 ⟨rfl, hr, ho⟩; have H7 := hid (H6.out.out ho hr); have HD9 : Hid (((rdDl z 8).map deOf).length = 8) := hid (by rw [List.length_map, rdDl_len]); clear hr ho)
    | (go_at_call 41; have := H5; refine (HKy.out _ H5.out.op.rd).mono ?_; rintro e w6 ⟨mo, kb, rfl, ⟨z, hr⟩, ho⟩; have H6 := hid (H5.out.out ho hr); clear hr ho)
    | (go_at_call 40; have := H4; refine (HLg.out _ H4.out.1.op.rd).mono ?_; rintro e w5 ⟨rfl, hr, ho⟩; have H5 := hid (H4.out.1.out ho hr); clear hr ho)
    | (go_at_call 39; have := H3b; refine (HMb.out _ H3b.out.1.rd).mono ?_; rintro e w4 ⟨a2, n2, c2, rfl, hn2, hN, hr, ho⟩; have H4 : Hid (OaSt w w4 b (o4 t) cv (readZ (oCt t)) a1 (readM (oCt t)).length c1 (readM (oCt t)) a2 (oNx t) ∧ n2 = (oNx t).length) := hid ⟨⟨H3b.out.1.out ho hr, H3b.out.2.1.outB ho (Nat.lt_succ_self _), H3b.out.2.2.1.outB ho (Nat.ne_of_gt H3b.out.2.2.2), hN.lowB (lt_of_blk H3b.out.1.rd), H3b.out.2.2.2⟩, hn2⟩; clear hN hr ho hn2; rw [← HCv.out]; clear H3 H3b)
    | (go_at_call 37; have := H2; refine (HCr.out _).mono ?_; rintro e w3 ⟨a1, c1, rfl, hN, hb3⟩; have H3 : Hid (OpSt w w3 b (o2 t) ∧ NewI (b + 1) w3 a1 (readM (oCt t)) ∧ b < w3.heap.size) := hid ⟨H2.out.keep hb3, hN.lowB (lt_of_blk H2.out.rd), Nat.lt_of_lt_of_le (lt_of_blk H2.out.rd) hb3.size⟩; clear hN hb3; obtain ⟨cv, ecv⟩ : ∃ cv, cv = w3.heap.size := ⟨_, rfl⟩; have hax3 := (Below.refl w3.heap.size w3).alloc (Nat.le_refl _) (.cells #[.int .i64 (readZ (oCt t)), .slice a1 (readM (oCt t)).length c1] 24); have H3b : Hid (OpSt w (w3.alloc (.cells #[.int .i64 (readZ (oCt t)), .slice a1 (readM (oCt t)).length c1] 24)) b (o2 t) ∧ NewI (b + 1) (w3.alloc (.cells #[.int .i64 (readZ (oCt t)), .slice a1 (readM (oCt t)).length c1] 24)) a1 (readM (oCt t)) ∧ GfAt (w3.alloc (.cells #[.int .i64 (readZ (oCt t)), .slice a1 (readM (oCt t)).length c1] 24)) cv (readZ (oCt t)) (.slice a1 (readM (oCt t)).length c1) ∧ b < cv) := hid ⟨H3.out.1.keep hax3, H3.out.2.1.keep hax3, by rw [ecv]; exact heap_alloc_last w3 _, by rw [ecv]; exact H3.out.2.2⟩; clear hax3; have HCv := hid ecv; clear ecv)
    | (go_at_call 38; have := H1; refine (HTx.out _ H1.out).mono ?_; rintro e w2 ⟨rfl, h2⟩; have H2 := hid h2; clear h2)
    | (go_at_call 36; refine (HRd.out _ H0.out).mono ?_; rintro e w1 ⟨rfl, h1⟩; have H1 := hid h1; clear h1)
    | (go_at_call 35; refine (read_any _ _).mono ?_; rintro e w0 ⟨rfl, hw0⟩; rw [← HBb.out]; rw [← hw0] at H0; clear hw0))
  go_ret2
  exact ⟨rfl, H8.out.op.bel⟩
set_option maxRecDepth 100000 in
set_option maxHeartbeats 12800000 in
theorem gopen_no4 (t : ByteArray) (w : World) (h1 : oHead t = 76) (h2 : readB (oCt t) = true) (h3 : memB (oNx t) = true) (h4 : within t = false) :
    Calls Tryz.prog 11 #[.string t] w fun e w' => e = .returned (.tuple #[.pointer none, .int .i64 5]) ∧ Below w.heap.size w w' := by
  have HRd : Hid (∀ u : World, OpSt w u w.heap.size ⟨t, false⟩ → Calls Tryz.prog 36 #[.pointer (some ⟨w.heap.size, 0, none⟩)] u fun e w' => e = .returned (.int .i64 (oHead t : Int)) ∧ OpSt w w' w.heap.size (o1 t)) := hid (fun u hu => (rbyte_any _ _ _ u hu.rd).mono fun e w' ⟨he, hr, hk⟩ => ⟨he, hu.out (kept1 hk) hr⟩)
  have HTx : Hid (∀ u : World, OpSt w u w.heap.size (o1 t) → Calls Tryz.prog 38 #[.pointer (some ⟨w.heap.size, 0, none⟩)] u fun e w' => e = .returned (.string (oCt t)) ∧ OpSt w w' w.heap.size (o2 t)) := hid (fun u hu => (rtext_any _ _ _ u hu.rd).mono fun e w' ⟨he, hr, hk⟩ => ⟨he, hu.out (kept1 hk) hr⟩)
  have HCr : Hid (∀ u : World, Calls Tryz.prog 37 #[.string (oCt t)] u fun e w' => ∃ a1 c1, e = .returned (.tuple #[.agg #[.int .i64 (readZ (oCt t)), .slice a1 (readM (oCt t)).length c1], .int .i64 0]) ∧ NewI u.heap.size w' a1 (readM (oCt t)) ∧ Below u.heap.size u w') := hid (fun u => by
    refine (cread_any (oCt t) u).mono ?_
    rintro e w' ⟨v, rfl, hO⟩
    obtain ⟨ad, cap, rfl, hN⟩ := hO.new
    exact ⟨ad, cap, by first | rfl | (rw [show readE (oCt t) = 0 by rw [readE, h2]; rfl]), hN, hO.bel⟩)
  have g1 : (oHead t : Int) = 76 := by omega
  have HMb : Hid (∀ u : World, RdAt u w.heap.size (o2 t).s (o2 t).sh → Calls Tryz.prog 39 #[.pointer (some ⟨w.heap.size, 0, none⟩)] u fun e w' => ∃ a2 n2 c2, e = .returned (.tuple #[.slice a2 n2 c2, .bool true]) ∧ n2 = (oNx t).length ∧ NewI u.heap.size w' a2 (oNx t) ∧ RdAt w' w.heap.size (o4 t).s (o4 t).sh ∧ Out [w.heap.size] u w') := hid (fun u hu => by
    have := greadMembers_any w.heap.size (o2 t) u hu
    rw [show memB (rdL ((o2 t).num 1).s ((o2 t).num 1).sh (rN (o2 t).s (o2 t).sh 1)) = true from h3] at this; exact this)
  have HLg : Hid (∀ u : World, RdAt u w.heap.size (o4 t).s (o4 t).sh → Calls Tryz.prog 40 #[.pointer (some ⟨w.heap.size, 0, none⟩)] u fun e w' => e = .returned (.int .i64 (oDn t : Int)) ∧ RdAt w' w.heap.size (o5 t).s (o5 t).sh ∧ Out [w.heap.size] u w') := hid (fun u hu => (rlong_any _ _ _ u hu).mono fun e w' ⟨he, hr, hk⟩ => ⟨he, hr, kept1 hk⟩)
  have HKy : Hid (∀ u : World, RdAt u w.heap.size (o5 t).s (o5 t).sh → Calls Tryz.prog 41 #[.pointer (some ⟨w.heap.size, 0, none⟩)] u fun e w' => ∃ (mo : Option Nat) (kb : Bool), e = .returned (.tuple #[.map mo, .bool kb]) ∧ (∃ z : Rd, RdAt w' w.heap.size z.s z.sh) ∧ Out [w.heap.size] u w') := hid (fun u hu => greadKeys_gen w.heap.size (o5 t) u hu)
  have hrt := text_read (oCt t) h2
  have hz : ((readZ (oCt t)).toNat : Int) = readZ (oCt t) := by have := (rightC_ep hrt.1).1; omega
  have HWi : Hid (∀ u : World, Calls Tryz.prog 43 #[.int .i64 (readZ (oCt t)), .int .i64 (oDn t : Int)] u fun e w' => e = .returned (.bool false) ∧ Below u.heap.size u w') := hid (fun u => by
    have := gisWithin_any (readZ (oCt t)).toNat (by have := (rightC_ep hrt.1).1; omega) (oDn t) u
    rw [hz, show (decide (4 * (readZ (oCt t)).toNat ≤ oDn t) && decide (oDn t ≤ 4 * ((readZ (oCt t)).toNat + 1))) = false from h4] at this
    exact this)
  clear hrt hz
  have hD8 : ((oDe t).map deOf).length = 8 := by rw [List.length_map]; exact rdDl_len _ 8
  have HD8 := hid hD8
  obtain ⟨HH, eHH⟩ : ∃ HH : Int, HH = (oHead t : Int) := ⟨_, rfl⟩
  rw [← eHH] at HRd g1
  obtain ⟨DN, eDN⟩ : ∃ DN : Int, DN = (oDn t : Int) := ⟨_, rfl⟩
  rw [← eDN] at HLg HWi
  clear hD8 eHH eDN h1 h2 h3 h4
  subst g1
  have H0 : Hid (OpSt w (w.alloc (.cells #[.string t, .bool false] 121)) w.heap.size ⟨t, false⟩) := hid ⟨heap_alloc_last w _, (Below.refl _ _).alloc (Nat.le_refl _) _, Nat.le_refl _⟩
  obtain ⟨b, eb⟩ : ∃ b, b = w.heap.size := ⟨_, rfl⟩
  rw [← eb] at H0 HRd HTx HMb HLg HKy
  have HBb := hid eb
  clear eb
  go_enter Tryz.func11, Tryz.ntmps11
  go_wp2_with (first
    | (go_at_call 43; have := H8; refine (HWi.out _).mono ?_; rintro e w9 ⟨rfl, hb9⟩; have H9 := hid (H8.out.keep hb9); clear hb9)
    | (have := H7; refine wl_store_all rfl _ _ rfl w7.heap.size (List.replicate 8 (0, 0, 0)) ((rdDl z 8).map deOf) rfl HD9.out rfl rfl (da_new w7) ?_; intro w8 Hq; have H8 := hid (H7.out.new Hq.out.2); clear Hq; obtain ⟨q0, q1⟩ := H8.out.cf.cells)
    | (go_at_call 42; have := H6; refine (greadLast_any _ _ _ H6.out.op.rd).mono ?_; rintro e w7 ⟨rfl, hr, ho⟩; have H7 := hid (H6.out.out ho hr); have HD9 : Hid (((rdDl z 8).map deOf).length = 8) := hid (by rw [List.length_map, rdDl_len]); clear hr ho)
    | (go_at_call 41; have := H5; refine (HKy.out _ H5.out.op.rd).mono ?_; rintro e w6 ⟨mo, kb, rfl, ⟨z, hr⟩, ho⟩; have H6 := hid (H5.out.out ho hr); clear hr ho)
    | (go_at_call 40; have := H4; refine (HLg.out _ H4.out.1.op.rd).mono ?_; rintro e w5 ⟨rfl, hr, ho⟩; have H5 := hid (H4.out.1.out ho hr); clear hr ho)
    | (go_at_call 39; have := H3b; refine (HMb.out _ H3b.out.1.rd).mono ?_; rintro e w4 ⟨a2, n2, c2, rfl, hn2, hN, hr, ho⟩; have H4 : Hid (OaSt w w4 b (o4 t) cv (readZ (oCt t)) a1 (readM (oCt t)).length c1 (readM (oCt t)) a2 (oNx t) ∧ n2 = (oNx t).length) := hid ⟨⟨H3b.out.1.out ho hr, H3b.out.2.1.outB ho (Nat.lt_succ_self _), H3b.out.2.2.1.outB ho (Nat.ne_of_gt H3b.out.2.2.2), hN.lowB (lt_of_blk H3b.out.1.rd), H3b.out.2.2.2⟩, hn2⟩; clear hN hr ho hn2; rw [← HCv.out]; clear H3 H3b)
    | (go_at_call 37; have := H2; refine (HCr.out _).mono ?_; rintro e w3 ⟨a1, c1, rfl, hN, hb3⟩; have H3 : Hid (OpSt w w3 b (o2 t) ∧ NewI (b + 1) w3 a1 (readM (oCt t)) ∧ b < w3.heap.size) := hid ⟨H2.out.keep hb3, hN.lowB (lt_of_blk H2.out.rd), Nat.lt_of_lt_of_le (lt_of_blk H2.out.rd) hb3.size⟩; clear hN hb3; obtain ⟨cv, ecv⟩ : ∃ cv, cv = w3.heap.size := ⟨_, rfl⟩; have hax3 := (Below.refl w3.heap.size w3).alloc (Nat.le_refl _) (.cells #[.int .i64 (readZ (oCt t)), .slice a1 (readM (oCt t)).length c1] 24); have H3b : Hid (OpSt w (w3.alloc (.cells #[.int .i64 (readZ (oCt t)), .slice a1 (readM (oCt t)).length c1] 24)) b (o2 t) ∧ NewI (b + 1) (w3.alloc (.cells #[.int .i64 (readZ (oCt t)), .slice a1 (readM (oCt t)).length c1] 24)) a1 (readM (oCt t)) ∧ GfAt (w3.alloc (.cells #[.int .i64 (readZ (oCt t)), .slice a1 (readM (oCt t)).length c1] 24)) cv (readZ (oCt t)) (.slice a1 (readM (oCt t)).length c1) ∧ b < cv) := hid ⟨H3.out.1.keep hax3, H3.out.2.1.keep hax3, by rw [ecv]; exact heap_alloc_last w3 _, by rw [ecv]; exact H3.out.2.2⟩; clear hax3; have HCv := hid ecv; clear ecv)
    | (go_at_call 38; have := H1; refine (HTx.out _ H1.out).mono ?_; rintro e w2 ⟨rfl, h2⟩; have H2 := hid h2; clear h2)
    | (go_at_call 36; refine (HRd.out _ H0.out).mono ?_; rintro e w1 ⟨rfl, h1⟩; have H1 := hid h1; clear h1)
    | (go_at_call 35; refine (read_any _ _).mono ?_; rintro e w0 ⟨rfl, hw0⟩; rw [← HBb.out]; rw [← hw0] at H0; clear hw0))
  go_ret2
  exact ⟨rfl, H9.out.op.bel⟩
set_option maxRecDepth 100000 in
set_option maxHeartbeats 12800000 in
theorem gopen_no5 (t : ByteArray) (w : World) (h1 : oHead t = 76) (h2 : readB (oCt t) = true) (h3 : memB (oNx t) = true) (h4 : within t = true) (h5 : keysB (oIt t) = false) :
    Calls Tryz.prog 11 #[.string t] w fun e w' => e = .returned (.tuple #[.pointer none, .int .i64 5]) ∧ Below w.heap.size w w' := by
  have HRd : Hid (∀ u : World, OpSt w u w.heap.size ⟨t, false⟩ → Calls Tryz.prog 36 #[.pointer (some ⟨w.heap.size, 0, none⟩)] u fun e w' => e = .returned (.int .i64 (oHead t : Int)) ∧ OpSt w w' w.heap.size (o1 t)) := hid (fun u hu => (rbyte_any _ _ _ u hu.rd).mono fun e w' ⟨he, hr, hk⟩ => ⟨he, hu.out (kept1 hk) hr⟩)
  have HTx : Hid (∀ u : World, OpSt w u w.heap.size (o1 t) → Calls Tryz.prog 38 #[.pointer (some ⟨w.heap.size, 0, none⟩)] u fun e w' => e = .returned (.string (oCt t)) ∧ OpSt w w' w.heap.size (o2 t)) := hid (fun u hu => (rtext_any _ _ _ u hu.rd).mono fun e w' ⟨he, hr, hk⟩ => ⟨he, hu.out (kept1 hk) hr⟩)
  have HCr : Hid (∀ u : World, Calls Tryz.prog 37 #[.string (oCt t)] u fun e w' => ∃ a1 c1, e = .returned (.tuple #[.agg #[.int .i64 (readZ (oCt t)), .slice a1 (readM (oCt t)).length c1], .int .i64 0]) ∧ NewI u.heap.size w' a1 (readM (oCt t)) ∧ Below u.heap.size u w') := hid (fun u => by
    refine (cread_any (oCt t) u).mono ?_
    rintro e w' ⟨v, rfl, hO⟩
    obtain ⟨ad, cap, rfl, hN⟩ := hO.new
    exact ⟨ad, cap, by first | rfl | (rw [show readE (oCt t) = 0 by rw [readE, h2]; rfl]), hN, hO.bel⟩)
  have g1 : (oHead t : Int) = 76 := by omega
  have HMb : Hid (∀ u : World, RdAt u w.heap.size (o2 t).s (o2 t).sh → Calls Tryz.prog 39 #[.pointer (some ⟨w.heap.size, 0, none⟩)] u fun e w' => ∃ a2 n2 c2, e = .returned (.tuple #[.slice a2 n2 c2, .bool true]) ∧ n2 = (oNx t).length ∧ NewI u.heap.size w' a2 (oNx t) ∧ RdAt w' w.heap.size (o4 t).s (o4 t).sh ∧ Out [w.heap.size] u w') := hid (fun u hu => by
    have := greadMembers_any w.heap.size (o2 t) u hu
    rw [show memB (rdL ((o2 t).num 1).s ((o2 t).num 1).sh (rN (o2 t).s (o2 t).sh 1)) = true from h3] at this; exact this)
  have HLg : Hid (∀ u : World, RdAt u w.heap.size (o4 t).s (o4 t).sh → Calls Tryz.prog 40 #[.pointer (some ⟨w.heap.size, 0, none⟩)] u fun e w' => e = .returned (.int .i64 (oDn t : Int)) ∧ RdAt w' w.heap.size (o5 t).s (o5 t).sh ∧ Out [w.heap.size] u w') := hid (fun u hu => (rlong_any _ _ _ u hu).mono fun e w' ⟨he, hr, hk⟩ => ⟨he, hr, kept1 hk⟩)
  have HKy : Hid (∀ u : World, RdAt u w.heap.size (o5 t).s (o5 t).sh → Calls Tryz.prog 41 #[.pointer (some ⟨w.heap.size, 0, none⟩)] u fun e w' => e = .returned (.tuple #[.map none, .bool false]) ∧ (∃ z : Rd, RdAt w' w.heap.size z.s z.sh) ∧ Out [w.heap.size] u w') := hid (fun u hu => greadKeys_no w.heap.size (o5 t) u hu h5)
  have hrt := text_read (oCt t) h2
  have hz : ((readZ (oCt t)).toNat : Int) = readZ (oCt t) := by have := (rightC_ep hrt.1).1; omega
  have HWi : Hid (∀ u : World, Calls Tryz.prog 43 #[.int .i64 (readZ (oCt t)), .int .i64 (oDn t : Int)] u fun e w' => e = .returned (.bool true) ∧ Below u.heap.size u w') := hid (fun u => by
    have := gisWithin_any (readZ (oCt t)).toNat (by have := (rightC_ep hrt.1).1; omega) (oDn t) u
    rw [hz, show (decide (4 * (readZ (oCt t)).toNat ≤ oDn t) && decide (oDn t ≤ 4 * ((readZ (oCt t)).toNat + 1))) = true from h4] at this
    exact this)
  clear hrt hz
  have hD8 : ((oDe t).map deOf).length = 8 := by rw [List.length_map]; exact rdDl_len _ 8
  have HD8 := hid hD8
  obtain ⟨HH, eHH⟩ : ∃ HH : Int, HH = (oHead t : Int) := ⟨_, rfl⟩
  rw [← eHH] at HRd g1
  obtain ⟨DN, eDN⟩ : ∃ DN : Int, DN = (oDn t : Int) := ⟨_, rfl⟩
  rw [← eDN] at HLg HWi
  clear hD8 eHH eDN h1 h2 h3 h4 h5
  subst g1
  have H0 : Hid (OpSt w (w.alloc (.cells #[.string t, .bool false] 121)) w.heap.size ⟨t, false⟩) := hid ⟨heap_alloc_last w _, (Below.refl _ _).alloc (Nat.le_refl _) _, Nat.le_refl _⟩
  obtain ⟨b, eb⟩ : ∃ b, b = w.heap.size := ⟨_, rfl⟩
  rw [← eb] at H0 HRd HTx HMb HLg HKy
  have HBb := hid eb
  clear eb
  go_enter Tryz.func11, Tryz.ntmps11
  go_wp2_with (first
    | (go_at_call 43; have := H8; refine (HWi.out _).mono ?_; rintro e w9 ⟨rfl, hb9⟩; have H9 := hid (H8.out.keep hb9); clear hb9)
    | (have := H7; refine wl_store_all rfl _ _ rfl w7.heap.size (List.replicate 8 (0, 0, 0)) ((rdDl z 8).map deOf) rfl HD9.out rfl rfl (da_new w7) ?_; intro w8 Hq; have H8 := hid (H7.out.new Hq.out.2); clear Hq; obtain ⟨q0, q1⟩ := H8.out.cf.cells)
    | (go_at_call 42; have := H6; refine (greadLast_any _ _ _ H6.out.op.rd).mono ?_; rintro e w7 ⟨rfl, hr, ho⟩; have H7 := hid (H6.out.out ho hr); have HD9 : Hid (((rdDl z 8).map deOf).length = 8) := hid (by rw [List.length_map, rdDl_len]); clear hr ho)
    | (go_at_call 41; have := H5; refine (HKy.out _ H5.out.op.rd).mono ?_; rintro e w6 ⟨rfl, ⟨z, hr⟩, ho⟩; have H6 := hid (H5.out.out ho hr); clear hr ho)
    | (go_at_call 40; have := H4; refine (HLg.out _ H4.out.1.op.rd).mono ?_; rintro e w5 ⟨rfl, hr, ho⟩; have H5 := hid (H4.out.1.out ho hr); clear hr ho)
    | (go_at_call 39; have := H3b; refine (HMb.out _ H3b.out.1.rd).mono ?_; rintro e w4 ⟨a2, n2, c2, rfl, hn2, hN, hr, ho⟩; have H4 : Hid (OaSt w w4 b (o4 t) cv (readZ (oCt t)) a1 (readM (oCt t)).length c1 (readM (oCt t)) a2 (oNx t) ∧ n2 = (oNx t).length) := hid ⟨⟨H3b.out.1.out ho hr, H3b.out.2.1.outB ho (Nat.lt_succ_self _), H3b.out.2.2.1.outB ho (Nat.ne_of_gt H3b.out.2.2.2), hN.lowB (lt_of_blk H3b.out.1.rd), H3b.out.2.2.2⟩, hn2⟩; clear hN hr ho hn2; rw [← HCv.out]; clear H3 H3b)
    | (go_at_call 37; have := H2; refine (HCr.out _).mono ?_; rintro e w3 ⟨a1, c1, rfl, hN, hb3⟩; have H3 : Hid (OpSt w w3 b (o2 t) ∧ NewI (b + 1) w3 a1 (readM (oCt t)) ∧ b < w3.heap.size) := hid ⟨H2.out.keep hb3, hN.lowB (lt_of_blk H2.out.rd), Nat.lt_of_lt_of_le (lt_of_blk H2.out.rd) hb3.size⟩; clear hN hb3; obtain ⟨cv, ecv⟩ : ∃ cv, cv = w3.heap.size := ⟨_, rfl⟩; have hax3 := (Below.refl w3.heap.size w3).alloc (Nat.le_refl _) (.cells #[.int .i64 (readZ (oCt t)), .slice a1 (readM (oCt t)).length c1] 24); have H3b : Hid (OpSt w (w3.alloc (.cells #[.int .i64 (readZ (oCt t)), .slice a1 (readM (oCt t)).length c1] 24)) b (o2 t) ∧ NewI (b + 1) (w3.alloc (.cells #[.int .i64 (readZ (oCt t)), .slice a1 (readM (oCt t)).length c1] 24)) a1 (readM (oCt t)) ∧ GfAt (w3.alloc (.cells #[.int .i64 (readZ (oCt t)), .slice a1 (readM (oCt t)).length c1] 24)) cv (readZ (oCt t)) (.slice a1 (readM (oCt t)).length c1) ∧ b < cv) := hid ⟨H3.out.1.keep hax3, H3.out.2.1.keep hax3, by rw [ecv]; exact heap_alloc_last w3 _, by rw [ecv]; exact H3.out.2.2⟩; clear hax3; have HCv := hid ecv; clear ecv)
    | (go_at_call 38; have := H1; refine (HTx.out _ H1.out).mono ?_; rintro e w2 ⟨rfl, h2⟩; have H2 := hid h2; clear h2)
    | (go_at_call 36; refine (HRd.out _ H0.out).mono ?_; rintro e w1 ⟨rfl, h1⟩; have H1 := hid h1; clear h1)
    | (go_at_call 35; refine (read_any _ _).mono ?_; rintro e w0 ⟨rfl, hw0⟩; rw [← HBb.out]; rw [← hw0] at H0; clear hw0))
  go_ret2
  exact ⟨rfl, H9.out.op.bel⟩
set_option maxRecDepth 100000 in
set_option maxHeartbeats 12800000 in
theorem gopen_no6 (t : ByteArray) (w : World) (h1 : oHead t = 76) (h2 : readB (oCt t) = true) (h3 : memB (oNx t) = true) (h4 : within t = true) (h5 : keysB (oIt t) = true) (h6 : (oDe t).all okD = false) :
    Calls Tryz.prog 11 #[.string t] w fun e w' => e = .returned (.tuple #[.pointer none, .int .i64 5]) ∧ Below w.heap.size w w' := by
  have HRd : Hid (∀ u : World, OpSt w u w.heap.size ⟨t, false⟩ → Calls Tryz.prog 36 #[.pointer (some ⟨w.heap.size, 0, none⟩)] u fun e w' => e = .returned (.int .i64 (oHead t : Int)) ∧ OpSt w w' w.heap.size (o1 t)) := hid (fun u hu => (rbyte_any _ _ _ u hu.rd).mono fun e w' ⟨he, hr, hk⟩ => ⟨he, hu.out (kept1 hk) hr⟩)
  have HTx : Hid (∀ u : World, OpSt w u w.heap.size (o1 t) → Calls Tryz.prog 38 #[.pointer (some ⟨w.heap.size, 0, none⟩)] u fun e w' => e = .returned (.string (oCt t)) ∧ OpSt w w' w.heap.size (o2 t)) := hid (fun u hu => (rtext_any _ _ _ u hu.rd).mono fun e w' ⟨he, hr, hk⟩ => ⟨he, hu.out (kept1 hk) hr⟩)
  have HCr : Hid (∀ u : World, Calls Tryz.prog 37 #[.string (oCt t)] u fun e w' => ∃ a1 c1, e = .returned (.tuple #[.agg #[.int .i64 (readZ (oCt t)), .slice a1 (readM (oCt t)).length c1], .int .i64 0]) ∧ NewI u.heap.size w' a1 (readM (oCt t)) ∧ Below u.heap.size u w') := hid (fun u => by
    refine (cread_any (oCt t) u).mono ?_
    rintro e w' ⟨v, rfl, hO⟩
    obtain ⟨ad, cap, rfl, hN⟩ := hO.new
    exact ⟨ad, cap, by first | rfl | (rw [show readE (oCt t) = 0 by rw [readE, h2]; rfl]), hN, hO.bel⟩)
  have g1 : (oHead t : Int) = 76 := by omega
  have HMb : Hid (∀ u : World, RdAt u w.heap.size (o2 t).s (o2 t).sh → Calls Tryz.prog 39 #[.pointer (some ⟨w.heap.size, 0, none⟩)] u fun e w' => ∃ a2 n2 c2, e = .returned (.tuple #[.slice a2 n2 c2, .bool true]) ∧ n2 = (oNx t).length ∧ NewI u.heap.size w' a2 (oNx t) ∧ RdAt w' w.heap.size (o4 t).s (o4 t).sh ∧ Out [w.heap.size] u w') := hid (fun u hu => by
    have := greadMembers_any w.heap.size (o2 t) u hu
    rw [show memB (rdL ((o2 t).num 1).s ((o2 t).num 1).sh (rN (o2 t).s (o2 t).sh 1)) = true from h3] at this; exact this)
  have HLg : Hid (∀ u : World, RdAt u w.heap.size (o4 t).s (o4 t).sh → Calls Tryz.prog 40 #[.pointer (some ⟨w.heap.size, 0, none⟩)] u fun e w' => e = .returned (.int .i64 (oDn t : Int)) ∧ RdAt w' w.heap.size (o5 t).s (o5 t).sh ∧ Out [w.heap.size] u w') := hid (fun u hu => (rlong_any _ _ _ u hu).mono fun e w' ⟨he, hr, hk⟩ => ⟨he, hr, kept1 hk⟩)
  have HKy : Hid (∀ u : World, RdAt u w.heap.size (o5 t).s (o5 t).sh → Calls Tryz.prog 41 #[.pointer (some ⟨w.heap.size, 0, none⟩)] u fun e w' => ∃ m, e = .returned (.tuple #[.map (some m), .bool true]) ∧ KmAt w' m (oIt t) ∧ u.heap.size ≤ m ∧ RdAt w' w.heap.size (o7 t).s (o7 t).sh ∧ Out [w.heap.size] u w') := hid (fun u hu => greadKeys_yes w.heap.size (o5 t) u hu h5)
  have HLs : Hid (∀ u : World, RdAt u w.heap.size (o7 t).s (o7 t).sh → Calls Tryz.prog 42 #[.pointer (some ⟨w.heap.size, 0, none⟩)] u fun e w' => e = .returned (.tuple #[.agg (deC ((oDe t).map deOf)).toArray, .bool false]) ∧ RdAt w' w.heap.size (o8 t).s (o8 t).sh ∧ Out [w.heap.size] u w') := hid (fun u hu => by
    have := greadLast_any w.heap.size (o7 t) u hu
    rw [show (rdDl (o7 t) 8).all okD = false from h6] at this
    exact this)
  have hrt := text_read (oCt t) h2
  have hz : ((readZ (oCt t)).toNat : Int) = readZ (oCt t) := by have := (rightC_ep hrt.1).1; omega
  have HWi : Hid (∀ u : World, Calls Tryz.prog 43 #[.int .i64 (readZ (oCt t)), .int .i64 (oDn t : Int)] u fun e w' => e = .returned (.bool true) ∧ Below u.heap.size u w') := hid (fun u => by
    have := gisWithin_any (readZ (oCt t)).toNat (by have := (rightC_ep hrt.1).1; omega) (oDn t) u
    rw [hz, show (decide (4 * (readZ (oCt t)).toNat ≤ oDn t) && decide (oDn t ≤ 4 * ((readZ (oCt t)).toNat + 1))) = true from h4] at this
    exact this)
  clear hrt hz
  have hD8 : ((oDe t).map deOf).length = 8 := by rw [List.length_map]; exact rdDl_len _ 8
  have HD8 := hid hD8
  obtain ⟨HH, eHH⟩ : ∃ HH : Int, HH = (oHead t : Int) := ⟨_, rfl⟩
  rw [← eHH] at HRd g1
  obtain ⟨DN, eDN⟩ : ∃ DN : Int, DN = (oDn t : Int) := ⟨_, rfl⟩
  rw [← eDN] at HLg HWi
  clear hD8 eHH eDN h1 h2 h3 h4 h5 h6
  subst g1
  have H0 : Hid (OpSt w (w.alloc (.cells #[.string t, .bool false] 121)) w.heap.size ⟨t, false⟩) := hid ⟨heap_alloc_last w _, (Below.refl _ _).alloc (Nat.le_refl _) _, Nat.le_refl _⟩
  obtain ⟨b, eb⟩ : ∃ b, b = w.heap.size := ⟨_, rfl⟩
  rw [← eb] at H0 HRd HTx HMb HLg HKy HLs
  have HBb := hid eb
  clear eb
  go_enter Tryz.func11, Tryz.ntmps11
  go_wp2_with (first
    | (go_at_call 43; have := H8; refine (HWi.out _).mono ?_; rintro e w9 ⟨rfl, hb9⟩; have H9 : Hid (OaSt w w9 b (o8 t) cv (readZ (oCt t)) a1 (readM (oCt t)).length c1 (readM (oCt t)) a2 (oNx t) ∧ KmAt w9 m (oIt t) ∧ b < m ∧ DaAt w9 w7.heap.size ((oDe t).map deOf)) := hid ⟨H8.out.1.keep hb9, H8.out.2.1.below hb9, H8.out.2.2.1, H8.out.2.2.2.keep hb9⟩; clear hb9 q0 q1; obtain ⟨q0, q1⟩ := H9.out.1.cf.cells)
    | (have := H7; refine wl_store_all rfl _ _ rfl w7.heap.size (List.replicate 8 (0, 0, 0)) ((oDe t).map deOf) rfl HD8.out rfl rfl (da_new w7) ?_; intro w8 Hq; have H8 : Hid (OaSt w w8 b (o8 t) cv (readZ (oCt t)) a1 (readM (oCt t)).length c1 (readM (oCt t)) a2 (oNx t) ∧ KmAt w8 m (oIt t) ∧ b < m ∧ DaAt w8 w7.heap.size ((oDe t).map deOf)) := hid ⟨H7.out.1.new Hq.out.2, (H7.out.2.1.below ((Below.refl w7.heap.size w7).alloc (Nat.le_refl _) (.cells (deC (List.replicate 8 (0, 0, 0))).toArray 70))).keep (Hq.out.2.block _ (Nat.ne_of_lt H7.out.2.1.lt)), H7.out.2.2, Hq.out.1⟩; clear Hq; obtain ⟨q0, q1⟩ := H8.out.1.cf.cells)
    | (go_at_call 42; have := H6; refine (HLs.out _ H6.out.1.op.rd).mono ?_; rintro e w7 ⟨rfl, hr, ho⟩; have H7 : Hid (OaSt w w7 b (o8 t) cv (readZ (oCt t)) a1 (readM (oCt t)).length c1 (readM (oCt t)) a2 (oNx t) ∧ KmAt w7 m (oIt t) ∧ b < m) := hid ⟨H6.out.1.out ho hr, H6.out.2.1.outB ho (Nat.ne_of_gt H6.out.2.2), H6.out.2.2⟩; clear hr ho)
    | (go_at_call 41; have := H5; refine (HKy.out _ H5.out.op.rd).mono ?_; rintro e w6 ⟨m, rfl, hk, hm, hr, ho⟩; have H6 : Hid (OaSt w w6 b (o7 t) cv (readZ (oCt t)) a1 (readM (oCt t)).length c1 (readM (oCt t)) a2 (oNx t) ∧ KmAt w6 m (oIt t) ∧ b < m) := hid ⟨H5.out.out ho hr, hk, Nat.lt_of_lt_of_le (lt_of_blk H5.out.op.rd) hm⟩; clear hk hm hr ho)
    | (go_at_call 40; have := H4; refine (HLg.out _ H4.out.1.op.rd).mono ?_; rintro e w5 ⟨rfl, hr, ho⟩; have H5 := hid (H4.out.1.out ho hr); clear hr ho)
    | (go_at_call 39; have := H3b; refine (HMb.out _ H3b.out.1.rd).mono ?_; rintro e w4 ⟨a2, n2, c2, rfl, hn2, hN, hr, ho⟩; have H4 : Hid (OaSt w w4 b (o4 t) cv (readZ (oCt t)) a1 (readM (oCt t)).length c1 (readM (oCt t)) a2 (oNx t) ∧ n2 = (oNx t).length) := hid ⟨⟨H3b.out.1.out ho hr, H3b.out.2.1.outB ho (Nat.lt_succ_self _), H3b.out.2.2.1.outB ho (Nat.ne_of_gt H3b.out.2.2.2), hN.lowB (lt_of_blk H3b.out.1.rd), H3b.out.2.2.2⟩, hn2⟩; clear hN hr ho hn2; rw [← HCv.out]; clear H3 H3b)
    | (go_at_call 37; have := H2; refine (HCr.out _).mono ?_; rintro e w3 ⟨a1, c1, rfl, hN, hb3⟩; have H3 : Hid (OpSt w w3 b (o2 t) ∧ NewI (b + 1) w3 a1 (readM (oCt t)) ∧ b < w3.heap.size) := hid ⟨H2.out.keep hb3, hN.lowB (lt_of_blk H2.out.rd), Nat.lt_of_lt_of_le (lt_of_blk H2.out.rd) hb3.size⟩; clear hN hb3; obtain ⟨cv, ecv⟩ : ∃ cv, cv = w3.heap.size := ⟨_, rfl⟩; have hax3 := (Below.refl w3.heap.size w3).alloc (Nat.le_refl _) (.cells #[.int .i64 (readZ (oCt t)), .slice a1 (readM (oCt t)).length c1] 24); have H3b : Hid (OpSt w (w3.alloc (.cells #[.int .i64 (readZ (oCt t)), .slice a1 (readM (oCt t)).length c1] 24)) b (o2 t) ∧ NewI (b + 1) (w3.alloc (.cells #[.int .i64 (readZ (oCt t)), .slice a1 (readM (oCt t)).length c1] 24)) a1 (readM (oCt t)) ∧ GfAt (w3.alloc (.cells #[.int .i64 (readZ (oCt t)), .slice a1 (readM (oCt t)).length c1] 24)) cv (readZ (oCt t)) (.slice a1 (readM (oCt t)).length c1) ∧ b < cv) := hid ⟨H3.out.1.keep hax3, H3.out.2.1.keep hax3, by rw [ecv]; exact heap_alloc_last w3 _, by rw [ecv]; exact H3.out.2.2⟩; clear hax3; have HCv := hid ecv; clear ecv)
    | (go_at_call 38; have := H1; refine (HTx.out _ H1.out).mono ?_; rintro e w2 ⟨rfl, h2⟩; have H2 := hid h2; clear h2)
    | (go_at_call 36; refine (HRd.out _ H0.out).mono ?_; rintro e w1 ⟨rfl, h1⟩; have H1 := hid h1; clear h1)
    | (go_at_call 35; refine (read_any _ _).mono ?_; rintro e w0 ⟨rfl, hw0⟩; rw [← HBb.out]; rw [← hw0] at H0; clear hw0))
  go_ret2
  exact ⟨rfl, H9.out.1.op.bel⟩
set_option maxRecDepth 100000 in
set_option maxHeartbeats 12800000 in
theorem gopen_no7 (t : ByteArray) (w : World) (h1 : oHead t = 76) (h2 : readB (oCt t) = true) (h3 : memB (oNx t) = true) (h4 : within t = true) (h5 : keysB (oIt t) = true) (h6 : (oDe t).all okD = true) (h7 : ¬ (endOf (o8 t).s (o8 t).sh = 0)) :
    Calls Tryz.prog 11 #[.string t] w fun e w' => e = .returned (.tuple #[.pointer none, .int .i64 5]) ∧ Below w.heap.size w w' := by
  have HRd : Hid (∀ u : World, OpSt w u w.heap.size ⟨t, false⟩ → Calls Tryz.prog 36 #[.pointer (some ⟨w.heap.size, 0, none⟩)] u fun e w' => e = .returned (.int .i64 (oHead t : Int)) ∧ OpSt w w' w.heap.size (o1 t)) := hid (fun u hu => (rbyte_any _ _ _ u hu.rd).mono fun e w' ⟨he, hr, hk⟩ => ⟨he, hu.out (kept1 hk) hr⟩)
  have HTx : Hid (∀ u : World, OpSt w u w.heap.size (o1 t) → Calls Tryz.prog 38 #[.pointer (some ⟨w.heap.size, 0, none⟩)] u fun e w' => e = .returned (.string (oCt t)) ∧ OpSt w w' w.heap.size (o2 t)) := hid (fun u hu => (rtext_any _ _ _ u hu.rd).mono fun e w' ⟨he, hr, hk⟩ => ⟨he, hu.out (kept1 hk) hr⟩)
  have HCr : Hid (∀ u : World, Calls Tryz.prog 37 #[.string (oCt t)] u fun e w' => ∃ a1 c1, e = .returned (.tuple #[.agg #[.int .i64 (readZ (oCt t)), .slice a1 (readM (oCt t)).length c1], .int .i64 0]) ∧ NewI u.heap.size w' a1 (readM (oCt t)) ∧ Below u.heap.size u w') := hid (fun u => by
    refine (cread_any (oCt t) u).mono ?_
    rintro e w' ⟨v, rfl, hO⟩
    obtain ⟨ad, cap, rfl, hN⟩ := hO.new
    exact ⟨ad, cap, by first | rfl | (rw [show readE (oCt t) = 0 by rw [readE, h2]; rfl]), hN, hO.bel⟩)
  have g1 : (oHead t : Int) = 76 := by omega
  have HMb : Hid (∀ u : World, RdAt u w.heap.size (o2 t).s (o2 t).sh → Calls Tryz.prog 39 #[.pointer (some ⟨w.heap.size, 0, none⟩)] u fun e w' => ∃ a2 n2 c2, e = .returned (.tuple #[.slice a2 n2 c2, .bool true]) ∧ n2 = (oNx t).length ∧ NewI u.heap.size w' a2 (oNx t) ∧ RdAt w' w.heap.size (o4 t).s (o4 t).sh ∧ Out [w.heap.size] u w') := hid (fun u hu => by
    have := greadMembers_any w.heap.size (o2 t) u hu
    rw [show memB (rdL ((o2 t).num 1).s ((o2 t).num 1).sh (rN (o2 t).s (o2 t).sh 1)) = true from h3] at this; exact this)
  have HLg : Hid (∀ u : World, RdAt u w.heap.size (o4 t).s (o4 t).sh → Calls Tryz.prog 40 #[.pointer (some ⟨w.heap.size, 0, none⟩)] u fun e w' => e = .returned (.int .i64 (oDn t : Int)) ∧ RdAt w' w.heap.size (o5 t).s (o5 t).sh ∧ Out [w.heap.size] u w') := hid (fun u hu => (rlong_any _ _ _ u hu).mono fun e w' ⟨he, hr, hk⟩ => ⟨he, hr, kept1 hk⟩)
  have HKy : Hid (∀ u : World, RdAt u w.heap.size (o5 t).s (o5 t).sh → Calls Tryz.prog 41 #[.pointer (some ⟨w.heap.size, 0, none⟩)] u fun e w' => ∃ m, e = .returned (.tuple #[.map (some m), .bool true]) ∧ KmAt w' m (oIt t) ∧ u.heap.size ≤ m ∧ RdAt w' w.heap.size (o7 t).s (o7 t).sh ∧ Out [w.heap.size] u w') := hid (fun u hu => greadKeys_yes w.heap.size (o5 t) u hu h5)
  have HLs : Hid (∀ u : World, RdAt u w.heap.size (o7 t).s (o7 t).sh → Calls Tryz.prog 42 #[.pointer (some ⟨w.heap.size, 0, none⟩)] u fun e w' => e = .returned (.tuple #[.agg (deC ((oDe t).map deOf)).toArray, .bool true]) ∧ RdAt w' w.heap.size (o8 t).s (o8 t).sh ∧ Out [w.heap.size] u w') := hid (fun u hu => by
    have := greadLast_any w.heap.size (o7 t) u hu
    rw [show (rdDl (o7 t) 8).all okD = true from h6] at this
    exact this)
  have hrt := text_read (oCt t) h2
  have hz : ((readZ (oCt t)).toNat : Int) = readZ (oCt t) := by have := (rightC_ep hrt.1).1; omega
  have HWi : Hid (∀ u : World, Calls Tryz.prog 43 #[.int .i64 (readZ (oCt t)), .int .i64 (oDn t : Int)] u fun e w' => e = .returned (.bool true) ∧ Below u.heap.size u w') := hid (fun u => by
    have := gisWithin_any (readZ (oCt t)).toNat (by have := (rightC_ep hrt.1).1; omega) (oDn t) u
    rw [hz, show (decide (4 * (readZ (oCt t)).toNat ≤ oDn t) && decide (oDn t ≤ 4 * ((readZ (oCt t)).toNat + 1))) = true from h4] at this
    exact this)
  clear hrt hz
  have HEn : Hid (∀ u : World, RdAt u w.heap.size (o8 t).s (o8 t).sh → Calls Tryz.prog 44 #[.pointer (some ⟨w.heap.size, 0, none⟩)] u fun e w' => e = .returned (.int .i64 (endOf (o8 t).s (o8 t).sh)) ∧ w' = u) := hid (fun u hu => end_any _ _ _ u hu)
  have g7 : ¬ (endOf (o8 t).s (o8 t).sh = 0) := h7
  clear h7
  generalize endOf (o8 t).s (o8 t).sh = E7 at HEn g7
  have hD8 : ((oDe t).map deOf).length = 8 := by rw [List.length_map]; exact rdDl_len _ 8
  have HD8 := hid hD8
  obtain ⟨HH, eHH⟩ : ∃ HH : Int, HH = (oHead t : Int) := ⟨_, rfl⟩
  rw [← eHH] at HRd g1
  obtain ⟨DN, eDN⟩ : ∃ DN : Int, DN = (oDn t : Int) := ⟨_, rfl⟩
  rw [← eDN] at HLg HWi
  clear hD8 eHH eDN h1 h2 h3 h4 h5 h6
  subst g1
  have H0 : Hid (OpSt w (w.alloc (.cells #[.string t, .bool false] 121)) w.heap.size ⟨t, false⟩) := hid ⟨heap_alloc_last w _, (Below.refl _ _).alloc (Nat.le_refl _) _, Nat.le_refl _⟩
  obtain ⟨b, eb⟩ : ∃ b, b = w.heap.size := ⟨_, rfl⟩
  rw [← eb] at H0 HRd HTx HMb HLg HKy HLs HEn
  have HBb := hid eb
  clear eb
  go_enter Tryz.func11, Tryz.ntmps11
  go_wp2_with (first
    | (go_at_call 44; have := H9; refine (HEn.out _ H9.out.1.op.rd).mono ?_; rintro e w10 ⟨rfl, hw10⟩; replace hw10 := hw10.symm; subst hw10; have T10 := hid True.intro)
    | (go_at_call 43; have := H8; refine (HWi.out _).mono ?_; rintro e w9 ⟨rfl, hb9⟩; have H9 : Hid (OaSt w w9 b (o8 t) cv (readZ (oCt t)) a1 (readM (oCt t)).length c1 (readM (oCt t)) a2 (oNx t) ∧ KmAt w9 m (oIt t) ∧ b < m ∧ DaAt w9 w7.heap.size ((oDe t).map deOf)) := hid ⟨H8.out.1.keep hb9, H8.out.2.1.below hb9, H8.out.2.2.1, H8.out.2.2.2.keep hb9⟩; clear hb9 q0 q1; obtain ⟨q0, q1⟩ := H9.out.1.cf.cells)
    | (have := H7; refine wl_store_all rfl _ _ rfl w7.heap.size (List.replicate 8 (0, 0, 0)) ((oDe t).map deOf) rfl HD8.out rfl rfl (da_new w7) ?_; intro w8 Hq; have H8 : Hid (OaSt w w8 b (o8 t) cv (readZ (oCt t)) a1 (readM (oCt t)).length c1 (readM (oCt t)) a2 (oNx t) ∧ KmAt w8 m (oIt t) ∧ b < m ∧ DaAt w8 w7.heap.size ((oDe t).map deOf)) := hid ⟨H7.out.1.new Hq.out.2, (H7.out.2.1.below ((Below.refl w7.heap.size w7).alloc (Nat.le_refl _) (.cells (deC (List.replicate 8 (0, 0, 0))).toArray 70))).keep (Hq.out.2.block _ (Nat.ne_of_lt H7.out.2.1.lt)), H7.out.2.2, Hq.out.1⟩; clear Hq; obtain ⟨q0, q1⟩ := H8.out.1.cf.cells)
    | (go_at_call 42; have := H6; refine (HLs.out _ H6.out.1.op.rd).mono ?_; rintro e w7 ⟨rfl, hr, ho⟩; have H7 : Hid (OaSt w w7 b (o8 t) cv (readZ (oCt t)) a1 (readM (oCt t)).length c1 (readM (oCt t)) a2 (oNx t) ∧ KmAt w7 m (oIt t) ∧ b < m) := hid ⟨H6.out.1.out ho hr, H6.out.2.1.outB ho (Nat.ne_of_gt H6.out.2.2), H6.out.2.2⟩; clear hr ho)
    | (go_at_call 41; have := H5; refine (HKy.out _ H5.out.op.rd).mono ?_; rintro e w6 ⟨m, rfl, hk, hm, hr, ho⟩; have H6 : Hid (OaSt w w6 b (o7 t) cv (readZ (oCt t)) a1 (readM (oCt t)).length c1 (readM (oCt t)) a2 (oNx t) ∧ KmAt w6 m (oIt t) ∧ b < m) := hid ⟨H5.out.out ho hr, hk, Nat.lt_of_lt_of_le (lt_of_blk H5.out.op.rd) hm⟩; clear hk hm hr ho)
    | (go_at_call 40; have := H4; refine (HLg.out _ H4.out.1.op.rd).mono ?_; rintro e w5 ⟨rfl, hr, ho⟩; have H5 := hid (H4.out.1.out ho hr); clear hr ho)
    | (go_at_call 39; have := H3b; refine (HMb.out _ H3b.out.1.rd).mono ?_; rintro e w4 ⟨a2, n2, c2, rfl, hn2, hN, hr, ho⟩; have H4 : Hid (OaSt w w4 b (o4 t) cv (readZ (oCt t)) a1 (readM (oCt t)).length c1 (readM (oCt t)) a2 (oNx t) ∧ n2 = (oNx t).length) := hid ⟨⟨H3b.out.1.out ho hr, H3b.out.2.1.outB ho (Nat.lt_succ_self _), H3b.out.2.2.1.outB ho (Nat.ne_of_gt H3b.out.2.2.2), hN.lowB (lt_of_blk H3b.out.1.rd), H3b.out.2.2.2⟩, hn2⟩; clear hN hr ho hn2; rw [← HCv.out]; clear H3 H3b)
    | (go_at_call 37; have := H2; refine (HCr.out _).mono ?_; rintro e w3 ⟨a1, c1, rfl, hN, hb3⟩; have H3 : Hid (OpSt w w3 b (o2 t) ∧ NewI (b + 1) w3 a1 (readM (oCt t)) ∧ b < w3.heap.size) := hid ⟨H2.out.keep hb3, hN.lowB (lt_of_blk H2.out.rd), Nat.lt_of_lt_of_le (lt_of_blk H2.out.rd) hb3.size⟩; clear hN hb3; obtain ⟨cv, ecv⟩ : ∃ cv, cv = w3.heap.size := ⟨_, rfl⟩; have hax3 := (Below.refl w3.heap.size w3).alloc (Nat.le_refl _) (.cells #[.int .i64 (readZ (oCt t)), .slice a1 (readM (oCt t)).length c1] 24); have H3b : Hid (OpSt w (w3.alloc (.cells #[.int .i64 (readZ (oCt t)), .slice a1 (readM (oCt t)).length c1] 24)) b (o2 t) ∧ NewI (b + 1) (w3.alloc (.cells #[.int .i64 (readZ (oCt t)), .slice a1 (readM (oCt t)).length c1] 24)) a1 (readM (oCt t)) ∧ GfAt (w3.alloc (.cells #[.int .i64 (readZ (oCt t)), .slice a1 (readM (oCt t)).length c1] 24)) cv (readZ (oCt t)) (.slice a1 (readM (oCt t)).length c1) ∧ b < cv) := hid ⟨H3.out.1.keep hax3, H3.out.2.1.keep hax3, by rw [ecv]; exact heap_alloc_last w3 _, by rw [ecv]; exact H3.out.2.2⟩; clear hax3; have HCv := hid ecv; clear ecv)
    | (go_at_call 38; have := H1; refine (HTx.out _ H1.out).mono ?_; rintro e w2 ⟨rfl, h2⟩; have H2 := hid h2; clear h2)
    | (go_at_call 36; refine (HRd.out _ H0.out).mono ?_; rintro e w1 ⟨rfl, h1⟩; have H1 := hid h1; clear h1)
    | (go_at_call 35; refine (read_any _ _).mono ?_; rintro e w0 ⟨rfl, hw0⟩; rw [← HBb.out]; rw [← hw0] at H0; clear hw0))
  go_ret2
  exact ⟨rfl, H9.out.1.op.bel⟩
theorem gopen_yes (t : ByteArray) (w : World) (h : opnB t = true) : Calls Tryz.prog 11 #[.string t] w fun e w' => ∃ v F, e = .returned (.tuple #[v, .int .i64 0]) ∧ LdAt F w' v (opS t) ∧ (∀ b, b ∈ F → w.heap.size ≤ b) ∧ Below w.heap.size w w' := by
  simp only [opnB, Bool.and_eq_true, decide_eq_true_eq] at h
  obtain ⟨h1, h2, h3, h4, h5, h6, h7⟩ := h
  exact gopen_ok t w h1 h2 h3 h4 h5 h6 h7
theorem gopen_no (t : ByteArray) (w : World) (h : opnB t = false) : Calls Tryz.prog 11 #[.string t] w fun e w' => e = .returned (.tuple #[.pointer none, .int .i64 5]) ∧ Below w.heap.size w w' := by
  by_cases h1 : oHead t = 76
  · cases h2 : readB (oCt t) with
    | false => exact gopen_no2 t w h1 h2
    | true =>
      cases h3 : memB (oNx t) with
      | false => exact gopen_no3 t w h1 h2 h3
      | true =>
        cases h4 : within t with
        | false => exact gopen_no4 t w h1 h2 h3 h4
        | true =>
          cases h5 : keysB (oIt t) with
          | false => exact gopen_no5 t w h1 h2 h3 h4 h5
          | true =>
            cases h6 : (oDe t).all okD with
            | false => exact gopen_no6 t w h1 h2 h3 h4 h5 h6
            | true =>
              by_cases h7 : endOf (o8 t).s (o8 t).sh = 0
              · rw [opnB, decide_eq_true h1, h2, h3, h4, h5, h6, decide_eq_true h7] at h
                cases h
              · exact gopen_no7 t w h1 h2 h3 h4 h5 h6 h7
  · exact gopen_no1 t w h1
end Go.Proofs.YtecidbdbdnnglaaGreat
