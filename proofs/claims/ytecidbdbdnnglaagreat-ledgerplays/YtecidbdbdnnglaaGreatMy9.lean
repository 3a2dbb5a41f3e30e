/- Texts laid together: LrJ LrN LrO LrP LrQ. -/
import Derived.Test.YtecidbdbdnnglaaGreatMy7
import Derived.Test.YtecidbdbdnnglaaGreatMy10
import Derived.BigQuiet
import Derived.Test.YtecidbdbdnnglaaGreatMy8
import Derived.Deep.DeepCutAuto
/- The document's ledger: Turn. -/
namespace Go.Proofs.YtecidbdbdnnglaaGreat
open Go.RowKit

section
variable {o : Oper} {a : Act} {w : World} {K : Act → World → Prop} {Q : Exit → Act → World → Prop}
theorem owp_ownI (x y : Operand) (ho : o.op = .call { callee := .builtin .append, args := #[x, y], argTypes := #[22, 22] })
    (hx : a.eval x = .slice none 0 0) (ad : Option Addr) (n cap : Nat) (zs : List Int) (hy : a.eval y = .slice ad n cap) (hn : zs.length = n) (hS : IntsIn w ad zs) (hl : n ≤ 17592186043904)
    (h : ∀ v' w', Hid (OwnedI w.heap.size w w' v' zs) → K (a.put o.dst v') w') : o.wp Tryz.prog a w K Q := by
  obtain ⟨i0, hi0, hz0, hz1, hz2⟩ := info_parts Tryz.info3
  cases ad with
  | none =>
    obtain rfl : zs = [] := by rcases hS with h | ⟨g, off, ha, _⟩; exact h; cases ha
    obtain rfl : 0 = n := hn
    refine owp_value (v := .slice none 0 0) (w' := w) ?_ (h _ _ (OwnedI.nil (Below.refl _ _) (Nat.le_refl _)))
    simp [execOp, ho, resolve, invoke, builtin, hx, hy, Builtin.append_, run_underlying Tryz.underlying22, sizeOf, typeInfo, hi0, Builtin.lenOf, Builtin.firstCells, Result.andThen]
  | some ad =>
    refine wp_append_own w x y 22 ho w.heap.size 3 i0 (.int .i64 0) 1 8 Tryz.underlying22 hi0 hz0 hz1 hz2 rfl (by decide) (.slice none 0 0) 0 [] hx ⟨rfl, .inl ⟨rfl, rfl⟩⟩ ad n cap (iC zs) hy (by rw [iC_len, hn, Nat.mul_one]) (fun j v hv => ?_) (iC_one _) (by unfold maxLen; omega) (by omega) (Nat.le_refl _) (fun v' w' hown hgrow _ => ?_)
    · obtain ⟨s, hs, rfl⟩ := iC_back zs j v hv
      rcases hS with h | ⟨g, off, ha, hg, hc⟩
      · rw [h] at hs; simp at hs
      · cases ha
        rw [Addr.add_lit]
        exact hc j s hs
    · exact h v' w' ((OwnedI.nil (Below.refl w.heap.size w) (Nat.le_refl _)).grow (xs := zs) hn hown hgrow)
end
theorem fpR_mem {w : World} {g gs gr : Nat} {am am' an ai : Option Addr} (h : ∀ x, am' = some x → w.heap.size ≤ x.block) : ∀ b, b ∈ fpR g gs gr am' an ai → b ∈ fpR g gs gr am an ai ∨ w.heap.size ≤ b := fun b hb => by
  rcases mem_fpR.1 hb with e | e | e | ⟨x, hx, e⟩ | e | e
  · exact .inl (mem_fpR.2 (.inl e))
  · exact .inl (mem_fpR.2 (.inr (.inl e)))
  · exact .inl (mem_fpR.2 (.inr (.inr (.inl e))))
  · exact .inr (by rw [e]; exact h x hx)
  · exact .inl (mem_fpR.2 (.inr (.inr (.inr (.inr (.inl e))))))
  · exact .inl (mem_fpR.2 (.inr (.inr (.inr (.inr (.inr e))))))
set_option maxRecDepth 100000 in
set_option maxHeartbeats 6400000 in
theorem wturn_no {F : List Nat} {w : World} {v : Value} {s : Ls} (h : LmAt F w v s) (hok : LOk s) (hF : fullS s = false) :
    Calls Tryz.prog 24 #[v] w fun e w' => e = .returned (.int .i64 18) ∧ LmTo F w w' v s := by
  have hc := wfullT h (by have := hok.ep; omega)
  rw [hF] at hc
  have H0 := hid h
  have HC := hid hc
  clear h hc hok hF
  go_enter Tryz.func24, Tryz.ntmps24
  go_wp2_with (first | (go_at_call 30; refine (HC.out).mono ?_; rintro e w1 ⟨rfl, hq⟩; have H1 := hid hq; clear hq))
  go_ret
  exact ⟨rfl, F, H0.out.keep H1.out, fun _ hb => .inl hb, Out.of_below H1.out⟩
set_option maxRecDepth 100000 in
set_option maxHeartbeats 6400000 in
theorem wturn_last {F : List Nat} {w : World} {g : Nat} {s : Ls} (h : LmAt F w (.pointer (some ⟨g, 0, none⟩)) s) (hok : LOk s) (hF : fullS s = true) (he : s.ep = 60) :
    Calls Tryz.prog 24 #[.pointer (some ⟨g, 0, none⟩)] w fun e w' => e = .returned (.int .i64 3) ∧ LmTo F w w' (.pointer (some ⟨g, 0, none⟩)) s := by
  have hc := wfullT h (by have := hok.ep; omega)
  rw [hF] at hc
  have H0 := hid h
  have HC := hid hc
  have HE : Hid (∀ (u : World), LmAt F u (.pointer (some ⟨g, 0, none⟩)) s → u.cell? ⟨g, 0, none⟩ = some (.int .i64 60)) := hid (fun u hu => by
    obtain ⟨g', gs, gr, am, an, ai, cm, cn, ci, hv, _, k⟩ := hu
    cases hv
    have := k.c0
    rw [he] at this
    exact this)
  clear h hc hok hF he
  go_enter Tryz.func24, Tryz.ntmps24
  go_wp2_with (first | (go_at_call 30; refine (HC.out).mono ?_; rintro e w1 ⟨rfl, hq⟩; have H1 := hid (H0.out.keep hq); have HB := hid hq; clear hq; have c0 := HE.out _ H1.out))
  go_ret
  exact ⟨rfl, F, H1.out, fun _ hb => .inl hb, Out.of_below HB.out⟩
set_option maxRecDepth 100000 in
set_option maxHeartbeats 6400000 in
theorem wturn_ok {F : List Nat} {w : World} {g : Nat} {s : Ls} (h : LmAt F w (.pointer (some ⟨g, 0, none⟩)) s) (hok : LOk s) (hF : fullS s = true) (he : s.ep ≠ 60) :
    Calls Tryz.prog 24 #[.pointer (some ⟨g, 0, none⟩)] w fun e w' => e = .returned (.int .i64 0) ∧ LmTo F w w' (.pointer (some ⟨g, 0, none⟩)) { s with ep := s.ep + 1, mem := s.nxt } := by
  have hc := wfullT h (by have := hok.ep; omega)
  rw [hF] at hc
  have HC := hid hc
  have hep : s.ep < 60 := by have := hok.ep; omega
  have hln : s.nxt.length ≤ 10 := by have := mem_len hok.nx; omega
  obtain ⟨g', gs, gr, am, an, ai, cm, cn, ci, hv, rfl, h⟩ := h
  cases hv
  have H0 := hid h
  obtain ⟨z, ez⟩ : ∃ z : Int, z = (s.ep : Int) := ⟨_, rfl⟩
  have HZ := hid ez
  have hz1 : ¬ (60 ≤ z) := by omega
  have hz2 : z < 60 := by omega
  have hz0 : 0 ≤ z := by omega
  have HW : Hid (IntKind.i64.wrap (z + 1) = z + 1) := hid (wrap_small _ (by omega) (by omega))
  have HL := hid (And.intro hln hep)
  have HCe : Hid (∀ u : World, LrA u g gs gr am an ai cm cn ci s → u.cell? ⟨g, 0, none⟩ = some (.int .i64 z) ∧ u.cell? ⟨g, 2, none⟩ = some (.slice an s.nxt.length cn)) := hid (fun u k => by rw [ez]; exact ⟨k.c0, k.c2⟩)
  clear h hc hok hF he hep ez hln
  go_enter Tryz.func24, Tryz.ntmps24
  go_wp2_with (first | (go_at_call 30; refine (HC.out).mono ?_; rintro e w1 ⟨rfl, hq⟩; have H1 := hid (H0.out.keep hq); have HB := hid hq; clear hq; obtain ⟨c0, c2⟩ := HCe.out _ H1.out))
  have H2 : Hid (LrA w1.drew g gs gr am an ai cm cn ci s) := hid (H1.out.keep (Below.refl _ _).drew)
  clear c0 c2
  refine wp_region_G (S := fun ww => LrA ww g gs gr am an ai cm cn ci s) (ex := [15]) (by kernel_rfl) ?_
  try (change wpAnyG _ _ _ _ _ _ _ _ _ (World.drew _))
  refine wpAnyG_take (i := 0) (v := ?v1) rfl (by kernel_rfl) (fun _ _ _ h => h) (Or.inl ⟨by rfl, ?hy1⟩) H2.out ?rest1
  case hy1 => (intro ww _; go_simp; try with_reducible rfl)
  go_simp
  refine wpAnyG_take (i := 1) (v := ?v2) rfl (by kernel_rfl) (fun _ _ _ h => h) (Or.inl ⟨by rfl, ?hy2⟩) H2.out ?rest2
  case hy2 => (intro ww _; go_simp; try with_reducible rfl)
  go_simp
  refine wpAnyG_take (i := 2) (v := ?v3) rfl (by kernel_rfl) (fun _ _ _ h => h) (Or.inl ⟨by rfl, ?hy3⟩) H2.out ?rest3
  case hy3 => (intro ww _; go_simp; try with_reducible rfl)
  go_simp
  refine wpAnyG_take (i := 3) (v := ?v4) rfl (by kernel_rfl) (fun _ _ _ h => h) (Or.inl ⟨by rfl, ?hy4⟩) H2.out ?rest4
  case hy4 => (intro ww _; go_simp; try with_reducible rfl)
  go_simp
  refine wpAnyG_take (i := 4) (v := ?v5) rfl (by kernel_rfl) (fun _ _ _ h => h) (Or.inl ⟨by rfl, ?hy5⟩) H2.out ?rest5
  case hy5 => (intro ww _; go_simp; try with_reducible rfl)
  go_simp
  refine wpAnyG_take (i := 5) (v := ?v6) rfl (by kernel_rfl) (fun _ _ _ h => h) (Or.inl ⟨by rfl, ?hy6⟩) H2.out ?rest6
  case hy6 => (intro ww hS; obtain ⟨c0, c2⟩ := HCe.out ww hS; go_simp; try with_reducible rfl)
  go_simp
  refine wpAnyG_take (i := 6) (v := ?v7) rfl (by kernel_rfl) (fun _ _ _ h => h) (Or.inl ⟨by rfl, ?hy7⟩) H2.out ?rest7
  case hy7 => (intro ww _; go_simp; try with_reducible rfl)
  go_simp
  refine wpAnyG_take (i := 7) (v := ?v8) rfl (by kernel_rfl) (fun _ _ _ h => h) (Or.inl ⟨by rfl, ?hy8⟩) H2.out ?rest8
  case hy8 => (intro ww _; go_simp; try with_reducible rfl)
  go_simp
  refine wpAnyG_take (i := 8) (v := ?v9) rfl (by kernel_rfl) (fun _ _ _ h => h) (Or.inl ⟨by rfl, ?hy9⟩) H2.out ?rest9
  case hy9 => (intro ww _; go_simp; try with_reducible rfl)
  go_simp
  refine wpAnyG_take (i := 9) (v := ?v10) rfl (by kernel_rfl) (fun _ _ _ h => h) (Or.inl ⟨by rfl, ?hy10⟩) H2.out ?rest10
  case hy10 => (intro ww _; go_simp; try with_reducible rfl)
  go_simp
  refine wpAnyG_take (i := 10) (v := ?v11) rfl (by kernel_rfl) (fun _ _ _ h => h) (Or.inl ⟨by rfl, ?hy11⟩) H2.out ?rest11
  case hy11 => (intro ww hS; obtain ⟨c0, c2⟩ := HCe.out ww hS; go_simp; try with_reducible rfl)
  go_simp
  refine wpAnyG_all (rs := [11]) (by kernel_rfl) (by simp) ?_
  intro i hi
  obtain rfl := List.mem_singleton.1 hi
  clear hi
  refine wpOp_d rfl (by rfl) (fun K hK => ?_)
  refine owp_ownI _ _ rfl (by rfl) an s.nxt.length cn s.nxt (by rfl) rfl H2.out.ix (by have := HL.out; omega) ?_
  intro v3 w3 HO
  have H3 := hid (H2.out.keep HO.out.bel)
  obtain ⟨ad, cap, hv3, hI, hfar⟩ := HO.out.slice
  subst hv3
  have HI := hid (And.intro hI hfar)
  clear hI hfar
  refine hK _ _ ⟨fun _ => H3.out, ?_⟩
  clear hK K
  go_simp
  refine wpAnyG_take (i := 12) (v := ?v12) rfl (by kernel_rfl) (fun _ _ _ h => h) (Or.inl ⟨by rfl, ?hy12⟩) H3.out ?rest12
  case hy12 => (intro ww _; go_simp; try with_reducible rfl)
  go_simp
  refine wpAnyG_take (i := 13) (v := ?v13) rfl (by kernel_rfl) (fun _ _ _ h => h) (Or.inl ⟨by rfl, ?hy13⟩) H3.out ?rest13
  case hy13 => (intro ww _; go_simp; try with_reducible rfl)
  go_simp
  refine wpAnyG_take (i := 14) (v := ?v14) rfl (by kernel_rfl) (fun _ _ _ h => h) (Or.inl ⟨by rfl, ?hy14⟩) H3.out ?rest14
  case hy14 => (intro ww _; go_simp; try with_reducible rfl)
  go_simp
  refine wpAnyG_all (rs := [15]) (by kernel_rfl) (by simp) ?_
  intro i hi
  obtain rfl := List.mem_singleton.1 hi
  clear hi
  refine wpOp_d rfl (by rfl) (fun K hK => ?_)
  refine owp_store_blk 24 _ _ rfl g 0 (by rfl) #[.int .i64 (IntKind.i64.wrap (z + 1)), .slice ad s.nxt.length cap] (by rfl) _ _ H3.out.blk (by simp) (by kernel_rfl) (by simp [Value.oneCell']) ?_
  intro w4 Hz
  have H4 : Hid (LrA w4 g gs gr ad an ai cap cn ci { s with ep := s.ep + 1, mem := s.nxt }) := hid (H3.out.setg Hz.out.2 (by have := Hz.out.1; rw [HW.out, HZ.out] at this; exact this) HI.out.1 H3.out.ix H3.out.it (fun x hx => ⟨far_newR H2.out (HI.out.2 x hx).1, (HI.out.2 x hx).2⟩) H3.out.na H3.out.ia rfl)
  refine hK _ _ ⟨fun h => absurd (by simp) h, ?_⟩
  clear hK K
  go_simp
  refine wpAnyG_done (by kernel_rfl) ?_ _
  go_simp
  go_wp2
  go_ret
  exact ⟨rfl, _, H4.out.at, fpR_mem (fun x hx => Nat.le_trans HB.out.size (HI.out.2 x hx).1), one_outR Hz.out.2 (Out.of_below (HB.out.drew.trans (HO.out.bel.mono HB.out.size))) (.inl fpR_g.1)⟩
theorem wturnT {F : List Nat} {w : World} {v : Value} {s : Ls} (h : LmAt F w v s) (hok : LOk s) :
    Calls Tryz.prog 24 #[v] w fun e w' => e = .returned (.int .i64 (turnE s)) ∧ LmTo F w w' v (turnS s) := by
  obtain ⟨g, rfl⟩ := h.ptr
  by_cases hF : fullS s = false
  · have e : turnE s = 18 := by rw [turnE, if_pos hF]
    rw [turnS, e]
    exact wturn_no h hok hF
  · have hF' : fullS s = true := by simpa using hF
    by_cases he : s.ep = 60
    · have e : turnE s = 3 := by rw [turnE, if_neg hF, if_pos he]
      rw [turnS, e]
      exact wturn_last h hok hF' he
    · have e : turnE s = 0 := by rw [turnE, if_neg hF, if_neg he]
      rw [turnS, e]
      exact wturn_ok h hok hF' he
end Go.Proofs.YtecidbdbdnnglaaGreat

/- The document's ledger: may there be such a one? -/
namespace Go.Proofs.YtecidbdbdnnglaaGreat
open Go.RowKit

def okDe (d : De) : Bool := decide (d.1 ≤ 1048576) && (!decide (d.1 = 0) || sameS d.2.1 d.2.2 0 0)
def mayB (s : Ls) : Bool := memB s.nxt && ((decide (4 * s.ep ≤ s.dn) && decide (s.dn ≤ 4 * (s.ep + 1))) && (keysB s.its && s.lst.all okDe))
/-- One key's test, as the document has it. -/
theorem okI_test (L : List Kb) (j : Nat) : okI L j = (((decide (1 ≤ (L.getD j (kEm, 0)).1.size) && decide ((L.getD j (kEm, 0)).1.size ≤ 16)) && (decide (j = 0) || ltK (prevK L j) (L.getD j (kEm, 0)).1)) && (!nanW (L.getD j (kEm, 0)).2 || decide ((L.getD j (kEm, 0)).2 = 9221120237041090560))) := by
  have hc : (canW (L.getD j (kEm, 0)).2 == (L.getD j (kEm, 0)).2) = (!nanW (L.getD j (kEm, 0)).2 || decide ((L.getD j (kEm, 0)).2 = 9221120237041090560)) := by
    unfold canW
    cases nanW (L.getD j (kEm, 0)).2 with
    | false => simp
    | true =>
      simp only [cond_true, Bool.not_true, Bool.false_or]
      by_cases h : (L.getD j (kEm, 0)).2 = 9221120237041090560
      · rw [h]; decide
      · rw [decide_eq_false h]
        simpa using fun e => h e.symm
  rw [okI, hc]
  congr 1
  cases j with
  | zero =>
    rw [prevK, ltK_em]
    simp [Bool.and_comm]
  | succ i =>
    have hz : decide (i + 1 = 0) = false := decide_eq_false (by omega)
    rw [hz, Bool.false_or]
    cases hl : ltK (prevK L (i + 1)) (L.getD (i + 1) (kEm, 0)).1 with
    | false => simp
    | true =>
      have := lt_size hl
      rw [decide_eq_true this]
      simp
section
variable {w : World} {g gs gr : Nat} {am an ai : Option Addr} {cm cn ci : Nat} {s : Ls}
set_option maxRecDepth 100000 in
set_option maxHeartbeats 6400000 in
theorem wmay_mem (h : LrA w g gs gr am an ai cm cn ci s) (hcf : rightC (s.ep : Int) s.mem = true) (hn : s.nxt.length ≤ 1000) (hi : s.its.length ≤ 1000) (hNx : memB s.nxt = false) :
    Calls Tryz.prog 51 #[.pointer (some ⟨g, 0, none⟩)] w fun e w' => e = .returned (.bool false) ∧ Below w.heap.size w w' := by
  have H := hid h
  have hep := (rightC_ep hcf).1
  have hml : s.mem.length ≤ maxLen := by have := mem_len (rightC_ep hcf).2; unfold maxLen; omega
  have hnl : s.nxt.length ≤ maxLen := by unfold maxLen; omega
  have HR : Hid (∀ u : World, LrA u g gs gr am an ai cm cn ci s → Calls Tryz.prog 23 #[.agg #[.int .i64 (s.ep : Int), .slice am s.mem.length cm]] u fun e w' => e = .returned (.bool true) ∧ Below u.heap.size u w') := hid (fun u k => by have := vright_any (s.ep : Int) am s.mem.length cm s.mem rfl hml u k.im; rw [hcf] at this; exact this)
  have HM : Hid (∀ u : World, LrA u g gs gr am an ai cm cn ci s → Calls Tryz.prog 66 #[.slice an s.nxt.length cn] u fun e w' => e = .returned (.bool false) ∧ Below u.heap.size u w') := hid (fun u k => by have := vmembers_any an s.nxt.length cn s.nxt rfl hnl u k.ix; rw [hNx] at this; exact this)
  obtain ⟨E, eE⟩ : ∃ z : Int, z = (s.ep : Int) := ⟨_, rfl⟩
  obtain ⟨D, eD⟩ : ∃ z : Int, z = (s.dn : Int) := ⟨_, rfl⟩
  obtain ⟨A, eA⟩ : ∃ z : Int, z = 4 * E := ⟨_, rfl⟩
  obtain ⟨E1, eE1⟩ : ∃ z : Int, z = E + 1 := ⟨_, rfl⟩
  obtain ⟨B, eB⟩ : ∃ z : Int, z = 4 * E1 := ⟨_, rfl⟩
  have hA : IntKind.i64.wrap (4 * E) = A := by rw [eA]; exact wrap_small _ (by omega) (by omega)
  have hE1 : IntKind.i64.wrap (E + 1) = E1 := by rw [eE1]; exact wrap_small _ (by omega) (by omega)
  have hB : IntKind.i64.wrap (4 * E1) = B := by rw [eB]; exact wrap_small _ (by omega) (by omega)
  have HC : Hid (∀ u : World, LrA u g gs gr am an ai cm cn ci s → u.cell? ⟨g, 0, none⟩ = some (.int .i64 E) ∧ u.cell? ⟨g, 1, none⟩ = some (.slice am s.mem.length cm) ∧ u.cell? ⟨g, 2, none⟩ = some (.slice an s.nxt.length cn) ∧ u.cell? ⟨g, 3, none⟩ = some (.int .i64 D) ∧ u.cell? ⟨g, 4, none⟩ = some (.slice ai s.its.length ci)) := hid (fun u k => by rw [eE, eD]; exact ⟨k.c0, k.c1, k.c2, k.c3, k.c4⟩)
  rw [← eE] at HR
  have HN := hid (And.intro hn hi)
  clear h hcf hml hnl hep eA eE1 eB eE eD hn hi hNx
  have HK : Hid (∀ x : Cls w, LrA x.1 g gs gr am an ai cm cn ci s) := hid (fun x => H.out.keep x.2)
  have d0 : ∀ x : Cls w, x.1.cell? ⟨g, 0, none⟩ = some (.int .i64 E) := fun x => (HC.out _ (HK.out x)).1
  have d1 : ∀ x : Cls w, x.1.cell? ⟨g, 1, none⟩ = some (.slice am s.mem.length cm) := fun x => (HC.out _ (HK.out x)).2.1
  have d2 : ∀ x : Cls w, x.1.cell? ⟨g, 2, none⟩ = some (.slice an s.nxt.length cn) := fun x => (HC.out _ (HK.out x)).2.2.1
  have d3 : ∀ x : Cls w, x.1.cell? ⟨g, 3, none⟩ = some (.int .i64 D) := fun x => (HC.out _ (HK.out x)).2.2.2.1
  have d4 : ∀ x : Cls w, x.1.cell? ⟨g, 4, none⟩ = some (.slice ai s.its.length ci) := fun x => (HC.out _ (HK.out x)).2.2.2.2
  haveI := Cls.ne w
  go_enter Tryz.func51, Tryz.ntmps51
  go_wp2
  refine wp_region_cls w (by kernel_rfl) (by kernel_rfl) ?_
  repeat (go_big_quiet_step ((first
    | (go_at_call 23; exact Cls.of _ (fun u hu => HR.out u (HK.out ⟨u, hu⟩)))
    | (go_at_call 66; exact Cls.of _ (fun u hu => HM.out u (HK.out ⟨u, hu⟩))))))
  refine wpQuiet_nil ?_
  rintro _ ⟨x, rfl⟩
  go_wp2
  go_ret
  exact ⟨rfl, x.2⟩
set_option maxRecDepth 100000 in
set_option maxHeartbeats 6400000 in
theorem wmay_lo (h : LrA w g gs gr am an ai cm cn ci s) (hcf : rightC (s.ep : Int) s.mem = true) (hn : s.nxt.length ≤ 1000) (hi : s.its.length ≤ 1000) (hNx : memB s.nxt = true) (hx : s.dn < 4 * s.ep) :
    Calls Tryz.prog 51 #[.pointer (some ⟨g, 0, none⟩)] w fun e w' => e = .returned (.bool false) ∧ Below w.heap.size w w' := by
  have H := hid h
  have hep := (rightC_ep hcf).1
  have hml : s.mem.length ≤ maxLen := by have := mem_len (rightC_ep hcf).2; unfold maxLen; omega
  have hnl : s.nxt.length ≤ maxLen := by unfold maxLen; omega
  have HR : Hid (∀ u : World, LrA u g gs gr am an ai cm cn ci s → Calls Tryz.prog 23 #[.agg #[.int .i64 (s.ep : Int), .slice am s.mem.length cm]] u fun e w' => e = .returned (.bool true) ∧ Below u.heap.size u w') := hid (fun u k => by have := vright_any (s.ep : Int) am s.mem.length cm s.mem rfl hml u k.im; rw [hcf] at this; exact this)
  have HM : Hid (∀ u : World, LrA u g gs gr am an ai cm cn ci s → Calls Tryz.prog 66 #[.slice an s.nxt.length cn] u fun e w' => e = .returned (.bool true) ∧ Below u.heap.size u w') := hid (fun u k => by have := vmembers_any an s.nxt.length cn s.nxt rfl hnl u k.ix; rw [hNx] at this; exact this)
  obtain ⟨E, eE⟩ : ∃ z : Int, z = (s.ep : Int) := ⟨_, rfl⟩
  obtain ⟨D, eD⟩ : ∃ z : Int, z = (s.dn : Int) := ⟨_, rfl⟩
  obtain ⟨A, eA⟩ : ∃ z : Int, z = 4 * E := ⟨_, rfl⟩
  obtain ⟨E1, eE1⟩ : ∃ z : Int, z = E + 1 := ⟨_, rfl⟩
  obtain ⟨B, eB⟩ : ∃ z : Int, z = 4 * E1 := ⟨_, rfl⟩
  have hA : IntKind.i64.wrap (4 * E) = A := by rw [eA]; exact wrap_small _ (by omega) (by omega)
  have hE1 : IntKind.i64.wrap (E + 1) = E1 := by rw [eE1]; exact wrap_small _ (by omega) (by omega)
  have hB : IntKind.i64.wrap (4 * E1) = B := by rw [eB]; exact wrap_small _ (by omega) (by omega)
  have q1 : decide (D < A) = true := decide_eq_true (by omega)
  have q1p : D < A := by omega
  have HC : Hid (∀ u : World, LrA u g gs gr am an ai cm cn ci s → u.cell? ⟨g, 0, none⟩ = some (.int .i64 E) ∧ u.cell? ⟨g, 1, none⟩ = some (.slice am s.mem.length cm) ∧ u.cell? ⟨g, 2, none⟩ = some (.slice an s.nxt.length cn) ∧ u.cell? ⟨g, 3, none⟩ = some (.int .i64 D) ∧ u.cell? ⟨g, 4, none⟩ = some (.slice ai s.its.length ci)) := hid (fun u k => by rw [eE, eD]; exact ⟨k.c0, k.c1, k.c2, k.c3, k.c4⟩)
  rw [← eE] at HR
  have HN := hid (And.intro hn hi)
  clear h hcf hml hnl hep eA eE1 eB eE eD hn hi hNx hx
  have HK : Hid (∀ x : Cls w, LrA x.1 g gs gr am an ai cm cn ci s) := hid (fun x => H.out.keep x.2)
  have d0 : ∀ x : Cls w, x.1.cell? ⟨g, 0, none⟩ = some (.int .i64 E) := fun x => (HC.out _ (HK.out x)).1
  have d1 : ∀ x : Cls w, x.1.cell? ⟨g, 1, none⟩ = some (.slice am s.mem.length cm) := fun x => (HC.out _ (HK.out x)).2.1
  have d2 : ∀ x : Cls w, x.1.cell? ⟨g, 2, none⟩ = some (.slice an s.nxt.length cn) := fun x => (HC.out _ (HK.out x)).2.2.1
  have d3 : ∀ x : Cls w, x.1.cell? ⟨g, 3, none⟩ = some (.int .i64 D) := fun x => (HC.out _ (HK.out x)).2.2.2.1
  have d4 : ∀ x : Cls w, x.1.cell? ⟨g, 4, none⟩ = some (.slice ai s.its.length ci) := fun x => (HC.out _ (HK.out x)).2.2.2.2
  haveI := Cls.ne w
  go_enter Tryz.func51, Tryz.ntmps51
  go_wp2
  refine wp_region_cls w (by kernel_rfl) (by kernel_rfl) ?_
  repeat (go_big_quiet_step ((first
    | (go_at_call 23; exact Cls.of _ (fun u hu => HR.out u (HK.out ⟨u, hu⟩)))
    | (go_at_call 66; exact Cls.of _ (fun u hu => HM.out u (HK.out ⟨u, hu⟩))))))
  refine wpQuiet_nil ?_
  rintro _ ⟨x, rfl⟩
  go_wp2
  go_ret
  exact ⟨rfl, x.2⟩
set_option maxRecDepth 100000 in
set_option maxHeartbeats 6400000 in
theorem wmay_hi (h : LrA w g gs gr am an ai cm cn ci s) (hcf : rightC (s.ep : Int) s.mem = true) (hn : s.nxt.length ≤ 1000) (hi : s.its.length ≤ 1000) (hNx : memB s.nxt = true) (_hx0 : ¬ s.dn < 4 * s.ep) (hx : 4 * (s.ep + 1) < s.dn) :
    Calls Tryz.prog 51 #[.pointer (some ⟨g, 0, none⟩)] w fun e w' => e = .returned (.bool false) ∧ Below w.heap.size w w' := by
  have H := hid h
  have hep := (rightC_ep hcf).1
  have hml : s.mem.length ≤ maxLen := by have := mem_len (rightC_ep hcf).2; unfold maxLen; omega
  have hnl : s.nxt.length ≤ maxLen := by unfold maxLen; omega
  have HR : Hid (∀ u : World, LrA u g gs gr am an ai cm cn ci s → Calls Tryz.prog 23 #[.agg #[.int .i64 (s.ep : Int), .slice am s.mem.length cm]] u fun e w' => e = .returned (.bool true) ∧ Below u.heap.size u w') := hid (fun u k => by have := vright_any (s.ep : Int) am s.mem.length cm s.mem rfl hml u k.im; rw [hcf] at this; exact this)
  have HM : Hid (∀ u : World, LrA u g gs gr am an ai cm cn ci s → Calls Tryz.prog 66 #[.slice an s.nxt.length cn] u fun e w' => e = .returned (.bool true) ∧ Below u.heap.size u w') := hid (fun u k => by have := vmembers_any an s.nxt.length cn s.nxt rfl hnl u k.ix; rw [hNx] at this; exact this)
  obtain ⟨E, eE⟩ : ∃ z : Int, z = (s.ep : Int) := ⟨_, rfl⟩
  obtain ⟨D, eD⟩ : ∃ z : Int, z = (s.dn : Int) := ⟨_, rfl⟩
  obtain ⟨A, eA⟩ : ∃ z : Int, z = 4 * E := ⟨_, rfl⟩
  obtain ⟨E1, eE1⟩ : ∃ z : Int, z = E + 1 := ⟨_, rfl⟩
  obtain ⟨B, eB⟩ : ∃ z : Int, z = 4 * E1 := ⟨_, rfl⟩
  have hA : IntKind.i64.wrap (4 * E) = A := by rw [eA]; exact wrap_small _ (by omega) (by omega)
  have hE1 : IntKind.i64.wrap (E + 1) = E1 := by rw [eE1]; exact wrap_small _ (by omega) (by omega)
  have hB : IntKind.i64.wrap (4 * E1) = B := by rw [eB]; exact wrap_small _ (by omega) (by omega)
  have q1 : decide (D < A) = false := decide_eq_false (by omega)
  have q1p : ¬ (D < A) := by omega
  have q2 : decide (B < D) = true := decide_eq_true (by omega)
  have q2p : B < D := by omega
  have HC : Hid (∀ u : World, LrA u g gs gr am an ai cm cn ci s → u.cell? ⟨g, 0, none⟩ = some (.int .i64 E) ∧ u.cell? ⟨g, 1, none⟩ = some (.slice am s.mem.length cm) ∧ u.cell? ⟨g, 2, none⟩ = some (.slice an s.nxt.length cn) ∧ u.cell? ⟨g, 3, none⟩ = some (.int .i64 D) ∧ u.cell? ⟨g, 4, none⟩ = some (.slice ai s.its.length ci)) := hid (fun u k => by rw [eE, eD]; exact ⟨k.c0, k.c1, k.c2, k.c3, k.c4⟩)
  rw [← eE] at HR
  have HN := hid (And.intro hn hi)
  clear h hcf hml hnl hep eA eE1 eB eE eD hn hi hNx hx
  have HK : Hid (∀ x : Cls w, LrA x.1 g gs gr am an ai cm cn ci s) := hid (fun x => H.out.keep x.2)
  have d0 : ∀ x : Cls w, x.1.cell? ⟨g, 0, none⟩ = some (.int .i64 E) := fun x => (HC.out _ (HK.out x)).1
  have d1 : ∀ x : Cls w, x.1.cell? ⟨g, 1, none⟩ = some (.slice am s.mem.length cm) := fun x => (HC.out _ (HK.out x)).2.1
  have d2 : ∀ x : Cls w, x.1.cell? ⟨g, 2, none⟩ = some (.slice an s.nxt.length cn) := fun x => (HC.out _ (HK.out x)).2.2.1
  have d3 : ∀ x : Cls w, x.1.cell? ⟨g, 3, none⟩ = some (.int .i64 D) := fun x => (HC.out _ (HK.out x)).2.2.2.1
  have d4 : ∀ x : Cls w, x.1.cell? ⟨g, 4, none⟩ = some (.slice ai s.its.length ci) := fun x => (HC.out _ (HK.out x)).2.2.2.2
  haveI := Cls.ne w
  go_enter Tryz.func51, Tryz.ntmps51
  go_wp2
  refine wp_region_cls w (by kernel_rfl) (by kernel_rfl) ?_
  repeat (go_big_quiet_step ((first
    | (go_at_call 23; exact Cls.of _ (fun u hu => HR.out u (HK.out ⟨u, hu⟩)))
    | (go_at_call 66; exact Cls.of _ (fun u hu => HM.out u (HK.out ⟨u, hu⟩))))))
  refine wpQuiet_nil ?_
  rintro _ ⟨x, rfl⟩
  go_wp2
  go_ret
  exact ⟨rfl, x.2⟩
set_option maxRecDepth 100000 in
set_option maxHeartbeats 6400000 in
theorem wmay_many (h : LrA w g gs gr am an ai cm cn ci s) (hcf : rightC (s.ep : Int) s.mem = true) (hn : s.nxt.length ≤ 1000) (hi : s.its.length ≤ 1000) (hNx : memB s.nxt = true) (hx0 : ¬ s.dn < 4 * s.ep) (hx1 : ¬ 4 * (s.ep + 1) < s.dn) (hx : 16 < s.its.length) :
    Calls Tryz.prog 51 #[.pointer (some ⟨g, 0, none⟩)] w fun e w' => e = .returned (.bool false) ∧ Below w.heap.size w w' := by
  have H := hid h
  have hep := (rightC_ep hcf).1
  have hml : s.mem.length ≤ maxLen := by have := mem_len (rightC_ep hcf).2; unfold maxLen; omega
  have hnl : s.nxt.length ≤ maxLen := by unfold maxLen; omega
  have HR : Hid (∀ u : World, LrA u g gs gr am an ai cm cn ci s → Calls Tryz.prog 23 #[.agg #[.int .i64 (s.ep : Int), .slice am s.mem.length cm]] u fun e w' => e = .returned (.bool true) ∧ Below u.heap.size u w') := hid (fun u k => by have := vright_any (s.ep : Int) am s.mem.length cm s.mem rfl hml u k.im; rw [hcf] at this; exact this)
  have HM : Hid (∀ u : World, LrA u g gs gr am an ai cm cn ci s → Calls Tryz.prog 66 #[.slice an s.nxt.length cn] u fun e w' => e = .returned (.bool true) ∧ Below u.heap.size u w') := hid (fun u k => by have := vmembers_any an s.nxt.length cn s.nxt rfl hnl u k.ix; rw [hNx] at this; exact this)
  obtain ⟨E, eE⟩ : ∃ z : Int, z = (s.ep : Int) := ⟨_, rfl⟩
  obtain ⟨D, eD⟩ : ∃ z : Int, z = (s.dn : Int) := ⟨_, rfl⟩
  obtain ⟨A, eA⟩ : ∃ z : Int, z = 4 * E := ⟨_, rfl⟩
  obtain ⟨E1, eE1⟩ : ∃ z : Int, z = E + 1 := ⟨_, rfl⟩
  obtain ⟨B, eB⟩ : ∃ z : Int, z = 4 * E1 := ⟨_, rfl⟩
  have hA : IntKind.i64.wrap (4 * E) = A := by rw [eA]; exact wrap_small _ (by omega) (by omega)
  have hE1 : IntKind.i64.wrap (E + 1) = E1 := by rw [eE1]; exact wrap_small _ (by omega) (by omega)
  have hB : IntKind.i64.wrap (4 * E1) = B := by rw [eB]; exact wrap_small _ (by omega) (by omega)
  have q1 : decide (D < A) = false := decide_eq_false (by omega)
  have q1p : ¬ (D < A) := by omega
  have q2 : decide (B < D) = false := decide_eq_false (by omega)
  have q2p : ¬ (B < D) := by omega
  have q3 : decide ((16 : Int) < (s.its.length : Int)) = true := decide_eq_true (by omega)
  have q3p : (16 : Int) < (s.its.length : Int) := by omega
  have HC : Hid (∀ u : World, LrA u g gs gr am an ai cm cn ci s → u.cell? ⟨g, 0, none⟩ = some (.int .i64 E) ∧ u.cell? ⟨g, 1, none⟩ = some (.slice am s.mem.length cm) ∧ u.cell? ⟨g, 2, none⟩ = some (.slice an s.nxt.length cn) ∧ u.cell? ⟨g, 3, none⟩ = some (.int .i64 D) ∧ u.cell? ⟨g, 4, none⟩ = some (.slice ai s.its.length ci)) := hid (fun u k => by rw [eE, eD]; exact ⟨k.c0, k.c1, k.c2, k.c3, k.c4⟩)
  rw [← eE] at HR
  have HN := hid (And.intro hn hi)
  clear h hcf hml hnl hep eA eE1 eB eE eD hn hi hNx hx0 hx1 hx
  have HK : Hid (∀ x : Cls w, LrA x.1 g gs gr am an ai cm cn ci s) := hid (fun x => H.out.keep x.2)
  have d0 : ∀ x : Cls w, x.1.cell? ⟨g, 0, none⟩ = some (.int .i64 E) := fun x => (HC.out _ (HK.out x)).1
  have d1 : ∀ x : Cls w, x.1.cell? ⟨g, 1, none⟩ = some (.slice am s.mem.length cm) := fun x => (HC.out _ (HK.out x)).2.1
  have d2 : ∀ x : Cls w, x.1.cell? ⟨g, 2, none⟩ = some (.slice an s.nxt.length cn) := fun x => (HC.out _ (HK.out x)).2.2.1
  have d3 : ∀ x : Cls w, x.1.cell? ⟨g, 3, none⟩ = some (.int .i64 D) := fun x => (HC.out _ (HK.out x)).2.2.2.1
  have d4 : ∀ x : Cls w, x.1.cell? ⟨g, 4, none⟩ = some (.slice ai s.its.length ci) := fun x => (HC.out _ (HK.out x)).2.2.2.2
  haveI := Cls.ne w
  go_enter Tryz.func51, Tryz.ntmps51
  go_wp2
  refine wp_region_cls w (by kernel_rfl) (by kernel_rfl) ?_
  repeat (go_big_quiet_step ((first
    | (go_at_call 23; exact Cls.of _ (fun u hu => HR.out u (HK.out ⟨u, hu⟩)))
    | (go_at_call 66; exact Cls.of _ (fun u hu => HM.out u (HK.out ⟨u, hu⟩))))))
  refine wpQuiet_nil ?_
  rintro _ ⟨x, rfl⟩
  go_wp2
  go_ret
  exact ⟨rfl, x.2⟩
end
end Go.Proofs.YtecidbdbdnnglaaGreat

/- The document's ledger: may there be such a one? The keys, the clients. -/
namespace Go.Proofs.YtecidbdbdnnglaaGreat
open Go.RowKit

section
variable {w : World} {g gs gr : Nat} {am an ai : Option Addr} {cm cn ci : Nat} {s : Ls}
set_option maxRecDepth 100000 in
set_option maxHeartbeats 6400000 in
theorem wmay_ok (h : LrA w g gs gr am an ai cm cn ci s) (hcf : rightC (s.ep : Int) s.mem = true) (hn : s.nxt.length ≤ 1000) (hi : s.its.length ≤ 1000) (hNx : memB s.nxt = true) (hx0 : ¬ s.dn < 4 * s.ep) (hx1 : ¬ 4 * (s.ep + 1) < s.dn) (hx : ¬ 16 < s.its.length) (hbits : ∀ y, y ∈ s.its → y.2 < 18446744073709551616) (hst : ∀ d, d ∈ s.lst → d.1 < 4294967296) (V : Bool) (hV : V = (okIto s.its s.its.length && s.lst.all okDe)) :
    Calls Tryz.prog 51 #[.pointer (some ⟨g, 0, none⟩)] w fun e w' => e = .returned (.bool V) ∧ Below w.heap.size w w' := by
  have H := hid h
  have hep := (rightC_ep hcf).1
  have hml : s.mem.length ≤ maxLen := by have := mem_len (rightC_ep hcf).2; unfold maxLen; omega
  have hnl : s.nxt.length ≤ maxLen := by unfold maxLen; omega
  have HR : Hid (∀ u : World, LrA u g gs gr am an ai cm cn ci s → Calls Tryz.prog 23 #[.agg #[.int .i64 (s.ep : Int), .slice am s.mem.length cm]] u fun e w' => e = .returned (.bool true) ∧ Below u.heap.size u w') := hid (fun u k => by have := vright_any (s.ep : Int) am s.mem.length cm s.mem rfl hml u k.im; rw [hcf] at this; exact this)
  have HM : Hid (∀ u : World, LrA u g gs gr am an ai cm cn ci s → Calls Tryz.prog 66 #[.slice an s.nxt.length cn] u fun e w' => e = .returned (.bool true) ∧ Below u.heap.size u w') := hid (fun u k => by have := vmembers_any an s.nxt.length cn s.nxt rfl hnl u k.ix; rw [hNx] at this; exact this)
  obtain ⟨E, eE⟩ : ∃ z : Int, z = (s.ep : Int) := ⟨_, rfl⟩
  obtain ⟨D, eD⟩ : ∃ z : Int, z = (s.dn : Int) := ⟨_, rfl⟩
  obtain ⟨A, eA⟩ : ∃ z : Int, z = 4 * E := ⟨_, rfl⟩
  obtain ⟨E1, eE1⟩ : ∃ z : Int, z = E + 1 := ⟨_, rfl⟩
  obtain ⟨B, eB⟩ : ∃ z : Int, z = 4 * E1 := ⟨_, rfl⟩
  have hA : IntKind.i64.wrap (4 * E) = A := by rw [eA]; exact wrap_small _ (by omega) (by omega)
  have hE1 : IntKind.i64.wrap (E + 1) = E1 := by rw [eE1]; exact wrap_small _ (by omega) (by omega)
  have hB : IntKind.i64.wrap (4 * E1) = B := by rw [eB]; exact wrap_small _ (by omega) (by omega)
  have q1 : decide (D < A) = false := decide_eq_false (by omega)
  have q1p : ¬ (D < A) := by omega
  have q2 : decide (B < D) = false := decide_eq_false (by omega)
  have q2p : ¬ (B < D) := by omega
  have q3 : decide ((16 : Int) < (s.its.length : Int)) = false := decide_eq_false (by omega)
  have q3p : ¬ ((16 : Int) < (s.its.length : Int)) := by omega
  have HL8 : Hid (s.lst.length = 8) := hid h.len
  have HBt := hid hbits
  have HSt := hid hst
  have HV := hid hV
  have HC : Hid (∀ u : World, LrA u g gs gr am an ai cm cn ci s → u.cell? ⟨g, 0, none⟩ = some (.int .i64 E) ∧ u.cell? ⟨g, 1, none⟩ = some (.slice am s.mem.length cm) ∧ u.cell? ⟨g, 2, none⟩ = some (.slice an s.nxt.length cn) ∧ u.cell? ⟨g, 3, none⟩ = some (.int .i64 D) ∧ u.cell? ⟨g, 4, none⟩ = some (.slice ai s.its.length ci)) := hid (fun u k => by rw [eE, eD]; exact ⟨k.c0, k.c1, k.c2, k.c3, k.c4⟩)
  rw [← eE] at HR
  have HN := hid (And.intro hn hi)
  clear h hcf hml hnl hep eA eE1 eB eE eD hn hi hNx hx0 hx1 hx hbits hst hV
  have HK : Hid (∀ x : Cls w, LrA x.1 g gs gr am an ai cm cn ci s) := hid (fun x => H.out.keep x.2)
  have d0 : ∀ x : Cls w, x.1.cell? ⟨g, 0, none⟩ = some (.int .i64 E) := fun x => (HC.out _ (HK.out x)).1
  have d1 : ∀ x : Cls w, x.1.cell? ⟨g, 1, none⟩ = some (.slice am s.mem.length cm) := fun x => (HC.out _ (HK.out x)).2.1
  have d2 : ∀ x : Cls w, x.1.cell? ⟨g, 2, none⟩ = some (.slice an s.nxt.length cn) := fun x => (HC.out _ (HK.out x)).2.2.1
  have d3 : ∀ x : Cls w, x.1.cell? ⟨g, 3, none⟩ = some (.int .i64 D) := fun x => (HC.out _ (HK.out x)).2.2.2.1
  have d4 : ∀ x : Cls w, x.1.cell? ⟨g, 4, none⟩ = some (.slice ai s.its.length ci) := fun x => (HC.out _ (HK.out x)).2.2.2.2
  haveI := Cls.ne w
  go_enter Tryz.func51, Tryz.ntmps51
  go_wp2
  refine wp_region_cls w (by kernel_rfl) (by kernel_rfl) ?_
  repeat (go_big_quiet_step ((first
    | (go_at_call 23; exact Cls.of _ (fun u hu => HR.out u (HK.out ⟨u, hu⟩)))
    | (go_at_call 66; exact Cls.of _ (fun u hu => HM.out u (HK.out ⟨u, hu⟩))))))
  refine wpQuiet_nil ?_
  rintro _ ⟨x, rfl⟩
  clear d0 d1 d2 d3 d4
  obtain ⟨n, en⟩ : ∃ n, n = s.its.length := ⟨_, rfl⟩
  have HNe := hid en
  rw [← en] at HN q3 q3p
  have HC4 : Hid (∀ u : World, LrA u g gs gr am an ai cm cn ci s → u.cell? ⟨g, 4, none⟩ = some (.slice ai n ci) ∧ u.cell? ⟨g, 5, none⟩ = some (.slice (some ⟨gs, 0, none⟩) 9 9) ∧ u.cell? ⟨g, 6, none⟩ = some (.slice (some ⟨gr, 0, none⟩) 9 9)) := hid (fun u k => by rw [en]; exact ⟨k.c4, k.c5, k.c6⟩)
  clear en HC
  clear q1 q2 q3 q1p q2p hA hB hE1
  go_wp2
  go_loopw [3] (fun i wr => ∃ j : Nat, j ≤ n ∧ i = .int .i64 (j : Int) ∧ okIto s.its j = true ∧ Below w.heap.size w wr)
    (fun i _ => ((n : Int) - intOf i).toNat)
  case atStart => exact ⟨0, Nat.zero_le _, rfl, rfl, x.2⟩
  case round =>
    obtain ⟨j, hj, rfl, hok, hB⟩ := hrel
    have HB := hid hB
    have HOk := hid hok
    obtain ⟨c4, c5, c6⟩ := HC4.out _ (H.out.keep hB)
    clear hB hok
    have hj0 : (0 : Int) ≤ (j : Int) := Int.natCast_nonneg _
    have hj16 : (j : Int) < 1000 := by have := HN.out; omega
    by_cases hjn : j = n
    · have hj1 : ¬ ((j : Int) < (n : Int)) := by omega
      have HAll : Hid (okIto s.its s.its.length = true) := hid (by have := HOk.out; have e := HNe.out; rw [hjn, e] at this; exact this)
      rw [HAll.out, Bool.true_and] at HV
      clear hj hjn hj0 hj16
      go_wp2
      go_loopw [5] (fun i wr => ∃ j : Nat, j ≤ 8 ∧ i = .int .i64 ((j : Int) + 1) ∧ (∀ c, c < j → okDe (s.at c) = true) ∧ Below w.heap.size w wr)
        (fun i _ => ((9 : Int) - intOf i).toNat)
      case atStart => exact ⟨0, Nat.zero_le _, rfl, fun c hc => by omega, HB.out⟩
      case round =>
        obtain ⟨k, hk, rfl, hok, hB⟩ := hrel
        have HB2 := hid hB
        have HOk2 := hid hok
        obtain ⟨c4, c5, c6⟩ := HC4.out _ (H.out.keep hB)
        clear hB hok c4
        have hk0 : (0 : Int) ≤ (k : Int) := Int.natCast_nonneg _
        by_cases hk8 : k = 8
        · have hk1 : ¬ (((k : Int) + 1) ≤ 8) := by omega
          have hall := hid (show V = true by
            rw [HV.out]
            refine List.all_eq_true.2 (fun d hd => ?_)
            obtain ⟨c, hc, rfl⟩ := List.getElem_of_mem hd
            have := HOk2.out c (by have := HL8.out; omega)
            rw [Ls.at, List.getD_eq_getElem?_getD, List.getElem?_eq_getElem hc] at this
            exact this)
          clear hk hk8
          go_wp2
          go_ret
          exact ⟨by rw [hall.out]; rfl, HB2.out⟩
        · have hk1 : ((k : Int) + 1) ≤ 8 := by omega
          have hk7 : k < 8 := by omega
          have k1 := (H.out.keep HB2.out).cs k hk7
          obtain ⟨k2, k3⟩ := (H.out.keep HB2.out).cr k hk7
          have HFa : Hid (okDe (s.at k) = false → V = false) := hid (fun e => by
            rw [HV.out]
            cases hv : s.lst.all okDe with
            | false => rfl
            | true =>
              have := List.all_eq_true.1 hv (s.at k) (List.mem_of_getElem? (at_get HL8.out hk7))
              rw [e] at this
              cases this)
          have HSd := hid (HSt.out (s.at k) (List.mem_of_getElem? (at_get HL8.out hk7)))
          have HD : Hid (okDe (s.at k) = (decide ((s.at k).1 ≤ 1048576) && (!decide ((s.at k).1 = 0) || sameS (s.at k).2.1 (s.at k).2.2 0 0))) := hid rfl
          have HSm : Hid (∀ u : World, Calls Tryz.prog 26 #[.agg #[.int .i64 (s.at k).2.1, .float .f64 (s.at k).2.2], .agg #[.int .i64 0, .float .f64 0]] u fun e w' => e = .returned (.bool (sameS (s.at k).2.1 (s.at k).2.2 0 0)) ∧ Below u.heap.size u w') := hid (fun u => qsameResult_any _ _ 0 0 u)
          have HOn : Hid (okDe (s.at k) = true → ∀ c, c < k + 1 → okDe (s.at c) = true) := hid (fun e c hc => by
            by_cases hck : c = k
            · rw [hck]; exact e
            · exact HOk2.out c (by omega))
          have HK8 := hid (And.intro hk hk8)
          generalize s.at k = d at k1 k2 k3 HFa HD HSm HSd HOn
          obtain ⟨z, ez⟩ : ∃ z : Int, z = (d.1 : Int) := ⟨_, rfl⟩
          rw [← ez] at k1
          obtain ⟨q, eq⟩ : ∃ q : Nat, q = k + 1 := ⟨_, rfl⟩
          have hq1 : ((k : Int) + 1) = (q : Int) := by omega
          rw [← eq] at k1 k2 k3
          have HQ := hid eq
          have hq0 : (0 : Int) ≤ (q : Int) := Int.natCast_nonneg _
          have hq9 : (q : Int) < 9 := by omega
          have hq8 : (q : Int) ≤ 8 := by omega
          rw [hq1]
          clear hk hk8 hk7 hk1 hk0 hq1 eq
          by_cases h1 : 1048576 < z
          · have hf := hid (HFa.out (by rw [HD.out, decide_eq_false (by omega)]; rfl))
            clear ez
            go_wp2
            go_ret
            exact ⟨by rw [hf.out]; rfl, HB2.out⟩
          · by_cases h2 : z = 0
            · have HD0 : Hid (okDe d = sameS d.2.1 d.2.2 0 0) := hid (by rw [HD.out, decide_eq_true (show d.1 ≤ 1048576 by omega), decide_eq_true (show d.1 = 0 by omega)]; rfl)
              subst h2
              clear ez
              cases hs : sameS d.2.1 d.2.2 0 0 with
              | true =>
                rw [hs] at HSm HD0
                clear hs h1
                go_wp2_with (first | (go_at_call 26; refine (HSm.out _).mono ?_; rintro e w5 ⟨rfl, hb⟩; have H5 := hid (HB2.out.trans (hb.mono HB2.out.size)); clear hb))
                go_roundw
                case rel => exact ⟨k + 1, by have := HK8.out; omega, by have := HQ.out; go_num, HOn.out HD0.out, H5.out⟩
                case measure => simp [intOf]; omega
              | false =>
                rw [hs] at HSm HD0
                have hf := hid (HFa.out HD0.out)
                clear hs h1
                go_wp2_with (first | (go_at_call 26; refine (HSm.out _).mono ?_; rintro e w5 ⟨rfl, hb⟩; have H5 := hid (HB2.out.trans (hb.mono HB2.out.size)); clear hb))
                go_ret
                exact ⟨by rw [hf.out]; rfl, H5.out⟩
            · have hp := hid (show okDe d = true by rw [HD.out, decide_eq_true (show d.1 ≤ 1048576 by omega), decide_eq_false (show ¬ d.1 = 0 by omega)]; rfl)
              have h2b : (z == 0) = false := by simpa using h2
              clear ez
              go_wp2
              go_roundw
              case rel => exact ⟨k + 1, by have := HK8.out; omega, by have := HQ.out; go_num, HOn.out hp.out, HB2.out⟩
              case measure => simp [intOf]; omega
    · have hj1 : (j : Int) < (n : Int) := by omega
      have hjl : j < s.its.length := by have := HNe.out; omega
      have HJ := hid (And.intro hj hjn)
      obtain ⟨ga, off, rfl, hc1, hc2⟩ := (H.out.keep HB.out).it.at j _ (getK_atR hjl)
      have HT := hid (okI_test s.its j)
      have HFa : Hid (okI s.its j = false → V = false) := hid (fun e => by rw [HV.out, okIto_false s.its j _ e hjl, Bool.false_and])
      have hpk : j ≠ 0 → (⟨ga, off, none⟩ : Addr).block = ga ∧ wr.cell? ⟨ga, off + (j - 1) * 2, none⟩ = some (.string (prevK s.its j)) := fun h0 => by
        obtain ⟨g2, o2, e2, k1, _⟩ := (H.out.keep HB.out).it.at (j - 1) _ (getK_atR (by omega))
        cases e2
        refine ⟨rfl, k1.trans ?_⟩
        cases j with
        | zero => exact absurd rfl h0
        | succ i => rfl
      have HPk := hid hpk
      have HBy : Hid ((s.its.getD j (kEm, 0)).2 < 18446744073709551616) := hid (by rw [show s.its.getD j (kEm, 0) = s.its[j] by simp [hjl]]; exact HBt.out _ (List.getElem_mem hjl))
      generalize s.its.getD j (kEm, 0) = y at hc1 hc2 HT HBy
      generalize prevK s.its j = pk at HT HPk
      clear hpk hj hjl
      have hw1 : ∀ u : World, Calls Tryz.prog 80 #[.int .u64 (y.2 : Int)] u fun e w' => e = .returned (.bool (nanW y.2)) ∧ w' = u := fun u => wild_any y.2 u
      have HWi := hid hw1
      clear hw1
      by_cases h1 : y.1.size < 1
      · have hf := hid (HFa.out (by rw [HT.out, decide_eq_false (show ¬ 1 ≤ y.1.size by omega)]; simp))
        have h1i : (y.1.size : Int) < 1 := by omega
        clear h1
        go_wp2
        go_ret
        exact ⟨by rw [hf.out]; rfl, HB.out⟩
      · have h1i : ¬ ((y.1.size : Int) < 1) := by omega
        by_cases h2 : 16 < y.1.size
        · have hf := hid (HFa.out (by rw [HT.out, decide_eq_false (show ¬ y.1.size ≤ 16 by omega)]; simp))
          have h2i : (16 : Int) < (y.1.size : Int) := by omega
          clear h1 h2
          go_wp2
          go_ret
          exact ⟨by rw [hf.out]; rfl, HB.out⟩
        · have h2i : ¬ ((16 : Int) < (y.1.size : Int)) := by omega
          have HSz := hid (And.intro h1 h2)
          clear h1 h2
          by_cases h0 : j = 0
          · have hz : ¬ ((0 : Int) < (j : Int)) := by omega
            have hzd : decide ((0 : Int) < (j : Int)) = false := decide_eq_false hz
            have HT0 : Hid (okI s.its j = (!nanW y.2 || decide (y.2 = 9221120237041090560))) := hid (by rw [HT.out, decide_eq_true (show 1 ≤ y.1.size by have := HSz.out; omega), decide_eq_true (show y.1.size ≤ 16 by have := HSz.out; omega), decide_eq_true h0]; simp)
            clear h0
            cases hn : nanW y.2 with
            | false =>
              rw [hn] at HWi HT0
              have hp := hid (show okI s.its j = true by rw [HT0.out]; rfl)
              go_wp2_with (first | (go_at_call 80; refine (HWi.out _).mono ?_; rintro e wq ⟨rfl, hw⟩; replace hw := hw.symm; subst hw))
              go_roundw
              case rel => exact ⟨j + 1, by have := HJ.out; omega, by go_num, by rw [okIto, HOk.out, hp.out]; rfl, HB.out⟩
              case measure => simp [intOf]; omega
            | true =>
              rw [hn] at HWi HT0
              by_cases hq : y.2 = 9221120237041090560
              · have hp := hid (show okI s.its j = true by rw [HT0.out, decide_eq_true hq]; rfl)
                rw [hq] at HWi hc2
                have HQ : Hid ((((9221120237041090560 : Nat) : Int) != 9221120237041090560) = false) := hid (by decide)
                clear hq hn
                go_wp2_with (first | (go_at_call 80; refine (HWi.out _).mono ?_; rintro e wq ⟨rfl, hw⟩; replace hw := hw.symm; subst hw) | rw [HQ.out])
                go_roundw
                case rel => exact ⟨j + 1, by have := HJ.out; omega, by go_num, by rw [okIto, HOk.out, hp.out]; rfl, HB.out⟩
                case measure => simp [intOf]; omega
              · have hf := hid (HFa.out (by rw [HT0.out, decide_eq_false hq]; rfl))
                have hqb : ((y.2 : Int) == 9221120237041090560) = false := by simpa using fun e => hq (by omega)
                clear hq
                go_wp2_with (first | (go_at_call 80; refine (HWi.out _).mono ?_; rintro e wq ⟨rfl, hw⟩; replace hw := hw.symm; subst hw))
                go_ret
                exact ⟨by rw [hf.out]; rfl, HB.out⟩
          · have hz : (0 : Int) < (j : Int) := by omega
            obtain ⟨_, hcp⟩ := HPk.out h0
            obtain ⟨jm, ejm⟩ : ∃ jm : Nat, jm = j - 1 := ⟨_, rfl⟩
            have hjm : ((j : Int) - 1) = (jm : Int) := by omega
            have hjm0 : (0 : Int) ≤ (jm : Int) := Int.natCast_nonneg _
            have hjm1 : (jm : Int) < (n : Int) := by omega
            rw [← ejm] at hcp
            cases hl : ltK pk y.1 with
            | false =>
              have hf := hid (HFa.out (by rw [HT.out, hl, decide_eq_false h0]; simp))
              have hb1 := less_text y.1 pk
              have hb2 := key_eq y.1 pk
              by_cases he : y.1 = pk
              · rw [he, ltK_irr] at hb1
                rw [decide_eq_true he] at hb2
                rw [← he] at hb1 hcp
                clear ejm h0 hl hb2 hb1 he
                go_wp2
                go_ret
                exact ⟨by rw [hf.out]; rfl, HB.out⟩
              · have hb3 : ltK y.1 pk = true := by
                  rcases ltK_tri he with h3 | h3
                  · exact h3
                  · rw [hl] at h3; cases h3
                rw [hb3] at hb1
                rw [decide_eq_false he] at hb2
                clear ejm h0 hl hb3 he
                go_wp2
                go_ret
                exact ⟨by rw [hf.out]; rfl, HB.out⟩
            | true =>
              have hb1 := less_text y.1 pk
              rw [ltK_asym hl] at hb1
              have hb2 := key_eq y.1 pk
              rw [decide_eq_false (ltK_ne hl).symm] at hb2
              have hb3 : ¬ y.1.toList = pk.toList := by simpa using hb2
              have HT0 : Hid (okI s.its j = (!nanW y.2 || decide (y.2 = 9221120237041090560))) := hid (by rw [HT.out, decide_eq_true (show 1 ≤ y.1.size by have := HSz.out; omega), decide_eq_true (show y.1.size ≤ 16 by have := HSz.out; omega), hl]; simp)
              clear ejm h0 hl
              cases hn : nanW y.2 with
              | false =>
                rw [hn] at HWi HT0
                have hp := hid (show okI s.its j = true by rw [HT0.out]; rfl)
                go_wp2_with (first | (go_at_call 80; refine (HWi.out _).mono ?_; rintro e wq ⟨rfl, hw⟩; replace hw := hw.symm; subst hw))
                go_roundw
                case rel => exact ⟨j + 1, by have := HJ.out; omega, by go_num, by rw [okIto, HOk.out, hp.out]; rfl, HB.out⟩
                case measure => simp [intOf]; omega
              | true =>
                rw [hn] at HWi HT0
                by_cases hq : y.2 = 9221120237041090560
                · have hp := hid (show okI s.its j = true by rw [HT0.out, decide_eq_true hq]; rfl)
                  rw [hq] at HWi hc2
                  have HQ : Hid ((((9221120237041090560 : Nat) : Int) != 9221120237041090560) = false) := hid (by decide)
                  clear hq hn
                  go_wp2_with (first | (go_at_call 80; refine (HWi.out _).mono ?_; rintro e wq ⟨rfl, hw⟩; replace hw := hw.symm; subst hw) | rw [HQ.out])
                  go_roundw
                  case rel => exact ⟨j + 1, by have := HJ.out; omega, by go_num, by rw [okIto, HOk.out, hp.out]; rfl, HB.out⟩
                  case measure => simp [intOf]; omega
                · have hf := hid (HFa.out (by rw [HT0.out, decide_eq_false hq]; rfl))
                  have hqb : ((y.2 : Int) == 9221120237041090560) = false := by simpa using fun e => hq (by omega)
                  clear hq
                  go_wp2_with (first | (go_at_call 80; refine (HWi.out _).mono ?_; rintro e wq ⟨rfl, hw⟩; replace hw := hw.symm; subst hw))
                  go_ret
                  exact ⟨by rw [hf.out]; rfl, HB.out⟩
end
end Go.Proofs.YtecidbdbdnnglaaGreat

/- The document's Open: what lies where while it reads. -/
namespace Go.Proofs.YtecidbdbdnnglaaGreat
open Go.RowKit

theorem wmayT {F : List Nat} {w : World} {v : Value} {s : Ls} (h : LmAt F w v s) (hcf : rightC (s.ep : Int) s.mem = true) (hn : s.nxt.length ≤ 1000) (hi : s.its.length ≤ 1000) (hbits : ∀ y, y ∈ s.its → y.2 < 18446744073709551616) (hst : ∀ d, d ∈ s.lst → d.1 < 4294967296) :
    Calls Tryz.prog 51 #[v] w fun e w' => e = .returned (.bool (mayB s)) ∧ Below w.heap.size w w' := by
  obtain ⟨g, gs, gr, am, an, ai, cm, cn, ci, rfl, rfl, h⟩ := h
  cases hN : memB s.nxt with
  | false =>
    rw [mayB, hN]
    exact wmay_mem h hcf hn hi hN
  | true =>
    by_cases h1 : s.dn < 4 * s.ep
    · rw [mayB, hN, decide_eq_false (show ¬ 4 * s.ep ≤ s.dn by omega)]
      exact wmay_lo h hcf hn hi hN h1
    · by_cases h2 : 4 * (s.ep + 1) < s.dn
      · rw [mayB, hN, decide_eq_false (show ¬ s.dn ≤ 4 * (s.ep + 1) by omega), Bool.and_false]
        exact wmay_hi h hcf hn hi hN h1 h2
      · by_cases h3 : 16 < s.its.length
        · rw [mayB, hN, keysB, decide_eq_false (show ¬ s.its.length ≤ 16 by omega), Bool.false_and, Bool.false_and, Bool.and_false]
          exact wmay_many h hcf hn hi hN h1 h2 h3
        · rw [mayB, hN, decide_eq_true (show 4 * s.ep ≤ s.dn by omega), decide_eq_true (show s.dn ≤ 4 * (s.ep + 1) by omega), keysB, decide_eq_true (show s.its.length ≤ 16 by omega)]
          exact wmay_ok h hcf hn hi hN h1 h2 h3 hbits hst _ rfl
/-- The reader at b, the ledger at g, its stamps at gs, its results at gr; whatever else lies in M. -/
structure Opn (w0 w : World) (b g gs gr : Nat) (x : Rd) (L : List Value) (SL : List Int) (RL : List (Int × Nat)) (M : List Nat) (R : World → Prop) : Prop where
  rd : MrAt w b x.s x.sh
  blk : w.heap[g]? = some (.cells L.toArray 61 (0, 0))
  st : w.heap[gs]? = some (.cells (iC SL).toArray 3 (0, 0))
  rs : w.heap[gr]? = some (.cells (rsC2 RL).toArray 50 (0, 0))
  ne : (b ≠ g ∧ b ≠ gs ∧ b ≠ gr) ∧ g ≠ gs ∧ g ≠ gr ∧ gs ≠ gr
  stb : Stable M R
  r : R w
  lt : ∀ k, k ∈ M → k < w.heap.size
  ap : ∀ k, k ∈ M → k ≠ b ∧ k ≠ g ∧ k ≠ gs ∧ k ≠ gr
  bel : Below w0.heap.size w0 w
  fr : (w0.heap.size ≤ b ∧ w0.heap.size ≤ g) ∧ w0.heap.size ≤ gs ∧ w0.heap.size ≤ gr
section
variable {w0 w w' : World} {b g gs gr : Nat} {x y : Rd} {L L' : List Value} {SL SL' : List Int} {RL RL' : List (Int × Nat)} {M : List Nat} {R : World → Prop}
theorem Opn.lts (h : Opn w0 w b g gs gr x L SL RL M R) : (b < w.heap.size ∧ g < w.heap.size) ∧ gs < w.heap.size ∧ gr < w.heap.size := ⟨⟨h.rd.lt, lt_of_blk h.blk⟩, lt_of_blk h.st, lt_of_blk h.rs⟩
theorem Opn.of (h : Opn w0 w b g gs gr x L SL RL M R) (hs : w.heap.size ≤ w'.heap.size) (ho : w'.os = w.os) (ht : w'.tape = w.tape) (hu : w'.output = w.output)
    (hrd : MrAt w' b y.s y.sh) (hg : w'.heap[g]? = some (.cells L'.toArray 61 (0, 0))) (h1 : w'.heap[gs]? = some (.cells (iC SL').toArray 3 (0, 0))) (h2 : w'.heap[gr]? = some (.cells (rsC2 RL').toArray 50 (0, 0)))
    (hb : ∀ k, k < w.heap.size → k ≠ b → k ≠ g → k ≠ gs → k ≠ gr → (k ∈ M ∨ k < w0.heap.size) → w'.heap[k]? = w.heap[k]?) : Opn w0 w' b g gs gr y L' SL' RL' M R :=
  ⟨hrd, hg, h1, h2, h.ne, h.stb, h.stb w w' h.r hs (fun k hk => hb k (h.lt k hk) (h.ap k hk).1 (h.ap k hk).2.1 (h.ap k hk).2.2.1 (h.ap k hk).2.2.2 (.inl hk)), fun k hk => Nat.lt_of_lt_of_le (h.lt k hk) hs, h.ap,
    h.bel.trans ⟨ho, ht, hu, hs, fun k hk => by have := h.fr; exact hb k (Nat.lt_of_lt_of_le hk h.bel.size) (by omega) (by omega) (by omega) (by omega) (.inr hk)⟩, h.fr⟩
theorem Opn.keep (h : Opn w0 w b g gs gr x L SL RL M R) (hb : Below w.heap.size w w') : Opn w0 w' b g gs gr x L SL RL M R := by
  have hl := h.lts
  exact h.of hb.size hb.os hb.tape hb.output ((hb.block b hl.1.1).trans h.rd) ((hb.block g hl.1.2).trans h.blk) ((hb.block gs hl.2.1).trans h.st) ((hb.block gr hl.2.2).trans h.rs) (fun k hk _ _ _ _ _ => hb.block k hk)
theorem Opn.read (h : Opn w0 w b g gs gr x L SL RL M R) (hr : MrAt w' b y.s y.sh) (hk : Kept b none w w') : Opn w0 w' b g gs gr y L SL RL M R := by
  have hl := h.lts
  have hn := h.ne
  exact h.of hk.size hk.os hk.tape hk.output hr ((hk.block g hl.1.2 hn.1.1.symm (by simp)).trans h.blk) ((hk.block gs hl.2.1 hn.1.2.1.symm (by simp)).trans h.st) ((hk.block gr hl.2.2 hn.1.2.2.symm (by simp)).trans h.rs) (fun k h1 h2 _ _ _ _ => hk.block k h1 h2 (by simp))
theorem Opn.setg (h : Opn w0 w b g gs gr x L SL RL M R) (ho : One g w w') (hg : w'.heap[g]? = some (.cells L'.toArray 61 (0, 0))) : Opn w0 w' b g gs gr x L' SL RL M R := by
  have hn := h.ne
  exact h.of (Nat.le_of_eq ho.size.symm) ho.os ho.tape ho.output ((ho.block b hn.1.1).trans h.rd) hg ((ho.block gs hn.2.1.symm).trans h.st) ((ho.block gr hn.2.2.1.symm).trans h.rs) (fun k _ _ h2 _ _ _ => ho.block k h2)
theorem Opn.sets (h : Opn w0 w b g gs gr x L SL RL M R) (ho : One gs w w') (hg : w'.heap[gs]? = some (.cells (iC SL').toArray 3 (0, 0))) : Opn w0 w' b g gs gr x L SL' RL M R := by
  have hn := h.ne
  exact h.of (Nat.le_of_eq ho.size.symm) ho.os ho.tape ho.output ((ho.block b hn.1.2.1).trans h.rd) ((ho.block g hn.2.1).trans h.blk) hg ((ho.block gr hn.2.2.2.symm).trans h.rs) (fun k _ _ _ h3 _ _ => ho.block k h3)
theorem Opn.setr (h : Opn w0 w b g gs gr x L SL RL M R) (ho : One gr w w') (hg : w'.heap[gr]? = some (.cells (rsC2 RL').toArray 50 (0, 0))) : Opn w0 w' b g gs gr x L SL RL' M R := by
  have hn := h.ne
  exact h.of (Nat.le_of_eq ho.size.symm) ho.os ho.tape ho.output ((ho.block b hn.1.2.2).trans h.rd) ((ho.block g hn.2.2.1).trans h.blk) ((ho.block gs hn.2.2.2).trans h.st) hg (fun k _ _ _ _ h4 _ => ho.block k h4)
/-- A row of one's own, that lies in none of these, grows. -/
theorem Opn.grow (h : Opn w0 w b g gs gr x L SL RL M R) {m : Option Nat} (hg : w.grownBy w' m) {B : Nat} (hB : ∀ k, m = some k → B ≤ k) (hlB : (b < B ∧ g < B) ∧ gs < B ∧ gr < B) (hM : ∀ k, k ∈ M → k < B) (h0 : w0.heap.size ≤ B) : Opn w0 w' b g gs gr x L SL RL M R := by
  have hl := h.lts
  have key : ∀ k, k < w.heap.size → k < B → w'.heap[k]? = w.heap[k]? := fun k h1 h2 => hg.block k h1 (fun e => by have := hB k e.symm; omega)
  exact h.of hg.size hg.os hg.tape hg.output ((key b hl.1.1 hlB.1.1).trans h.rd) ((key g hl.1.2 hlB.1.2).trans h.blk) ((key gs hl.2.1 hlB.2.1).trans h.st) ((key gr hl.2.2 hlB.2.2).trans h.rs) (fun k h1 _ _ _ _ h5 => key k h1 (by
    rcases h5 with h5 | h5
    · exact hM k h5
    · omega))
theorem Opn.add {N : List Nat} {S : World → Prop} (h : Opn w0 w b g gs gr x L SL RL M R) (hs : Stable N S) (hr : S w) (hl : ∀ k, k ∈ N → k < w.heap.size) (ha : ∀ k, k ∈ N → k ≠ b ∧ k ≠ g ∧ k ≠ gs ∧ k ≠ gr) : Opn w0 w b g gs gr x L SL RL (N ++ M) (fun u => S u ∧ R u) :=
  ⟨h.rd, h.blk, h.st, h.rs, h.ne, stable_and hs h.stb, ⟨hr, h.r⟩, fun k hk => by rcases List.mem_append.1 hk with e | e; exact hl k e; exact h.lt k e, fun k hk => by rcases List.mem_append.1 hk with e | e; exact ha k e; exact h.ap k e, h.bel, h.fr⟩
theorem stable_ints (a : Option Addr) (l : List Int) (N : Nat) : Stable (blkR a) (fun u => IntsIn u a l ∧ (∀ z, a = some z → z.block < u.heap.size ∧ N ≤ z.block)) := fun _ _ h hs hb => ⟨ints_stayR h.1 hs (fun z hz => hb _ (mem_blkR.2 ⟨z, hz, rfl⟩)), fun z hz => ⟨Nat.lt_of_lt_of_le (h.2 z hz).1 hs, (h.2 z hz).2⟩⟩
theorem stable_keys (a : Option Addr) (l : List Kb) (N : Nat) : Stable (blkR a) (fun u => KbIn u a l ∧ (∀ z, a = some z → z.block < u.heap.size ∧ N ≤ z.block)) := fun _ _ h hs hb => ⟨h.1.stay hs (fun z hz => hb _ (mem_blkR.2 ⟨z, hz, rfl⟩)), fun z hz => ⟨Nat.lt_of_lt_of_le (h.2 z hz).1 hs, (h.2 z hz).2⟩⟩
end
section
variable {o : Oper} {a : Act} {w : World} {K : Act → World → Prop} {Q : Exit → Act → World → Prop}
theorem owp_app_K (sl x : Operand) (ho : o.op = .call { callee := .builtin .append, args := #[sl, x], argTypes := #[58, 58] }) (B : Nat) (v : Value) (n : Nat) (l : List Kb)
    (hs : a.eval sl = v) (hO : w.ownsRow B 79 2 v n (kbC l)) (g : Nat) (y : Kb) (hx : a.eval x = .slice (some ⟨g, 0, none⟩) 1 1) (hc : w.cell? ⟨g, 0, none⟩ = some (.string y.1)) (hc1 : w.cell? ⟨g, 1, none⟩ = some (.int .u64 (y.2 : Int))) (hB : B ≤ w.heap.size) (hlen : n + 1 ≤ 100000)
    (h : ∀ v' w', Hid (w'.ownsRow B 79 2 v' (n + 1) (kbC (l ++ [y]))) → Hid (w.grownBy w' v.ownBlock) → K (a.put o.dst v') w') : o.wp Tryz.prog a w K Q := by
  obtain ⟨i0, hi0, hz0, hz1, hz2⟩ := info_parts Tryz.info79
  obtain ⟨v', w', hr, h2, h3, h4⟩ := run_append_own (P := Tryz.prog) w B 58 o.type 79 i0 (.agg #[.string ⟨#[]⟩, .int .u64 0]) 2 24 Tryz.underlying58 hi0 hz0 hz1 hz2 rfl (by decide) v n (kbC l) hO ⟨g, 0, none⟩ 1 1 [.string y.1, .int .u64 (y.2 : Int)] rfl (fun j u hj => by
    match j, hj with
    | 0, hj => simp at hj; subst hj; simpa [Addr.add] using hc
    | 1, hj => simp at hj; subst hj; simpa [Addr.add] using hc1) (by simp [Value.oneCell']) (by unfold maxLen; omega) (by omega) hB
  refine owp_value (v := v') (w' := w') ?_ (h v' w' (by rw [kbC_app]; exact h2) h3)
  simp [execOp, ho, resolve, invoke, builtin, hs, hx, hr, Result.andThen]
end
theorem own_stay {w w' : World} {B : Nat} {T : TypeId} {sz n : Nat} {v : Value} {xs : List Value} (h : w.ownsRow B T sz v n xs) (hb : ∀ k, B ≤ k → k < w.heap.size → w'.heap[k]? = w.heap[k]?) : w'.ownsRow B T sz v n xs := by
  obtain ⟨h1, h2⟩ := h
  refine ⟨h1, ?_⟩
  rcases h2 with h2 | ⟨g, cap, cur, hv, hg, hh, r⟩
  · exact .inl h2
  · exact .inr ⟨g, cap, cur, hv, hg, by rw [hb g hg (lt_of_blk hh)]; exact hh, r⟩
/-- Keys of one's own, as a slice. -/
theorem own_keys {w : World} {B n : Nat} {v : Value} {l : List Kb} (h : w.ownsRow B 79 2 v n (kbC l)) (hn : l.length = n) : ∃ ad cap, v = .slice ad n cap ∧ KbIn w ad l ∧ ∀ z, ad = some z → z.block < w.heap.size ∧ B ≤ z.block := by
  subst hn
  have hO : OwnedK (min B w.heap.size) w w v l := ⟨by
    obtain ⟨h1, h2⟩ := h
    refine ⟨h1, ?_⟩
    rcases h2 with h2 | ⟨g, cap, cur, hv, hg, r⟩
    · exact .inl h2
    · exact .inr ⟨g, cap, cur, hv, by omega, r⟩, Below.refl _ _, by omega⟩
  obtain ⟨ad, cap, hv, hk, hx⟩ := hO.slice
  refine ⟨ad, cap, hv, hk, fun z hz => ⟨(hx z hz).2, ?_⟩⟩
  subst hv hz
  exact (h.lt z.block rfl).1
theorem own_nums {w : World} {B n : Nat} {v : Value} {l : List Int} (h : w.ownsRow B 3 1 v n (iC l)) (hn : l.length = n) : ∃ ad cap, v = .slice ad n cap ∧ IntsIn w ad l ∧ ∀ z, ad = some z → z.block < w.heap.size ∧ B ≤ z.block := by
  subst hn
  have hO : OwnedI (min B w.heap.size) w w v l := ⟨by
    obtain ⟨h1, h2⟩ := h
    refine ⟨h1, ?_⟩
    rcases h2 with h2 | ⟨g, cap, cur, hv, hg, r⟩
    · exact .inl h2
    · exact .inr ⟨g, cap, cur, hv, by omega, r⟩, Below.refl _ _, by omega⟩
  obtain ⟨ad, cap, hv, hk, hx⟩ := hO.slice
  refine ⟨ad, cap, hv, hk, fun z hz => ⟨(hx z hz).2, ?_⟩⟩
  subst hv hz
  exact (h.lt z.block rfl).1
end Go.Proofs.YtecidbdbdnnglaaGreat

/- The document's Open. -/
namespace Go.Proofs.YtecidbdbdnnglaaGreat
open Go.RowKit

def lst0 : List De := List.replicate 8 (0, 0, 0)
theorem mk_ints (w : World) : Sem.run Tryz.prog (Instr.makeSlice 22 (.int .i64 9) (.int .i64 9)) w = .ok (.slice (some ⟨w.heap.size, 0, none⟩) 9 9) (w.alloc (.cells (iC (stL lst0)).toArray 3 (0, 0))) := by kernel_rfl
theorem mk_ress (w : World) : Sem.run Tryz.prog (Instr.makeSlice 59 (.int .i64 9) (.int .i64 9)) w = .ok (.slice (some ⟨w.heap.size, 0, none⟩) 9 9) (w.alloc (.cells (rsC2 (reL lst0)).toArray 50 (0, 0))) := by kernel_rfl
def oS3 (t : ByteArray) (k : Nat) : Rd := ⟨(rdS (o3 t).s (o3 t).sh k).1, (rdS (o3 t).s (o3 t).sh k).2⟩
def OpPost (t : ByteArray) (w : World) (e : Ending) (w' : World) : Prop := (opnB t = true ∧ ∃ v F, e = .returned (.tuple #[v, .int .i64 0]) ∧ LmAt F w' v (opS t) ∧ (∀ b, b ∈ F → w.heap.size ≤ b) ∧ Below w.heap.size w w') ∨ (opnB t = false ∧ e = .returned (.tuple #[.pointer none, .int .i64 5]) ∧ Below w.heap.size w w')
theorem tx_sizes (s : ByteArray) (sh : Bool) : (tS s sh).size ≤ s.size := by
  unfold tS
  split
  · simp [ByteArray.size_extract]
  · exact Nat.le_refl _
theorem oS3_le (t : ByteArray) : ∀ k, (oS3 t k).s.size ≤ (o3 t).s.size
  | 0 => Nat.le_refl _
  | k + 1 => Nat.le_trans (rd_sizes _ _ 1) (oS3_le t k)
theorem rdIs_le (x : Rd) : ∀ k, (rdIs x k).s.size ≤ x.s.size
  | 0 => Nat.le_refl _
  | k + 1 => Nat.le_trans (rd_sizes _ _ 8) (Nat.le_trans (tx_sizes _ _) (rdIs_le x k))
theorem rdDs_le (x : Rd) : ∀ k, (rdDs x k).s.size ≤ x.s.size
  | 0 => Nat.le_refl _
  | k + 1 => Nat.le_trans (tx_sizes _ _) (Nat.le_trans (rd_sizes _ _ 4) (rdDs_le x k))
section
variable {w0 w : World} {b g gs gr : Nat} {x : Rd} {L : List Value} {SL : List Int} {RL : List (Int × Nat)} {M : List Nat} {R : World → Prop}
theorem opn_num (h : Opn w0 w b g gs gr x L SL RL M R) (k : Nat) (z : Int) (hzk : z = (k : Int)) (hk : 256 ^ k ≤ 4294967296) (hk8 : k ≤ 8) (N : Nat) (hN : N = rN x.s x.sh k) :
    Calls Tryz.prog 45 #[.pointer (some ⟨b, 0, none⟩), .int .i64 z] w fun e w' => e = .returned (.int .i64 (N : Int)) ∧ Opn w0 w' b g gs gr (x.num k) L SL RL M R ∧ Kept b none w w' :=
  hzk ▸ (mnum_any b x.s x.sh k w h.rd hk hk8).mono fun e w' ⟨h1, h2, h3⟩ => ⟨by rw [hN]; exact h1, h.read (y := x.num k) h2 h3, h3⟩
theorem opn_bits (h : Opn w0 w b g gs gr x L SL RL M R) (N : Nat) (hN : N = rN x.s x.sh 8) :
    Calls Tryz.prog 48 #[.pointer (some ⟨b, 0, none⟩), .int .i64 8] w fun e w' => e = .returned (.int .u64 (N : Int)) ∧ Opn w0 w' b g gs gr (x.num 8) L SL RL M R ∧ Kept b none w w' :=
  (mbits_any b x.s x.sh 8 w h.rd (Nat.le_refl _)).mono fun e w' ⟨h1, h2, h3⟩ => ⟨by rw [hN]; exact h1, h.read (y := x.num 8) h2 h3, h3⟩
theorem opn_txt (h : Opn w0 w b g gs gr x L SL RL M R) (T : ByteArray) (hT : T = tT x.s x.sh) (hz : x.s.size ≤ 9223372036854775807) :
    Calls Tryz.prog 47 #[.pointer (some ⟨b, 0, none⟩)] w fun e w' => e = .returned (.string T) ∧ Opn w0 w' b g gs gr x.txt L SL RL M R ∧ Kept b none w w' :=
  (mtext_any b x.s x.sh w h.rd hz).mono fun e w' ⟨h1, h2, h3⟩ => ⟨by rw [hT]; exact h1, h.read (y := x.txt) h2 h3, h3⟩
end
def dJ (t : ByteArray) (j : Nat) : List De := (rdDl (o7 t) j).map deOf ++ List.replicate (8 - j) (0, 0, 0)
def dTx (t : ByteArray) (j : Nat) : ByteArray := tT ((rdDs (o7 t) j).num 4).s ((rdDs (o7 t) j).num 4).sh
def dSt (t : ByteArray) (j : Nat) : Nat := rN (rdDs (o7 t) j).s (rdDs (o7 t) j).sh 4
theorem dJ_0 (t : ByteArray) : dJ t 0 = lst0 := rfl
theorem dJ_8 (t : ByteArray) : dJ t 8 = (opS t).lst := by
  show (rdDl (o7 t) 8).map deOf ++ [] = _
  rw [List.append_nil]
  rfl
theorem dJ_len (t : ByteArray) {j : Nat} (hj : j ≤ 8) : (dJ t j).length = 8 := by
  rw [dJ, List.length_append, List.length_map, rdDl_len, List.length_replicate]
  omega
theorem dJ_succ (t : ByteArray) {j : Nat} (hj : j < 8) : dJ t (j + 1) = (dJ t j).set j (dSt t j, rsC (dTx t j), rsF (dTx t j)) := by
  have h1 : ((rdDl (o7 t) j).map deOf).length = j := by rw [List.length_map, rdDl_len]
  rw [dJ, dJ, rdDl, List.map_append, show 8 - j = (8 - (j + 1)) + 1 by omega, List.replicate_succ, List.set_append, if_neg (by omega), h1, Nat.sub_self, List.set_cons_zero, List.append_assoc]
  rfl
theorem st_succ (t : ByteArray) {j : Nat} (hj : j < 8) : (stL (dJ t j)).set (j + 1) (dSt t j : Int) = stL (dJ t (j + 1)) := by rw [dJ_succ t hj, ← stL_set]
theorem re_succ (t : ByteArray) {j : Nat} (hj : j < 8) : (reL (dJ t j)).set (j + 1) (rsC (dTx t j), rsF (dTx t j)) = reL (dJ t (j + 1)) := by rw [dJ_succ t hj, ← reL_set]
theorem rdDl_mem (x : Rd) : ∀ k p, p ∈ rdDl x k → ∃ c, c < k ∧ p = (rN (rdDs x c).s (rdDs x c).sh 4, tT ((rdDs x c).num 4).s ((rdDs x c).num 4).sh)
  | 0, p, h => by cases h
  | k + 1, p, h => by
    rw [rdDl, List.mem_append] at h
    rcases h with h | h
    · obtain ⟨c, h1, h2⟩ := rdDl_mem x k p h
      exact ⟨c, by omega, h2⟩
    · exact ⟨k, by omega, List.mem_singleton.1 h⟩
theorem rdDl_in (x : Rd) : ∀ k c, c < k → (rN (rdDs x c).s (rdDs x c).sh 4, tT ((rdDs x c).num 4).s ((rdDs x c).num 4).sh) ∈ rdDl x k
  | 0, c, h => by omega
  | k + 1, c, h => by
    rw [rdDl, List.mem_append]
    by_cases e : c = k
    · subst e; exact .inr (List.mem_singleton.2 rfl)
    · exact .inl (rdDl_in x k c (by omega))
theorem rdIl_lt (x : Rd) : ∀ k y, y ∈ rdIl x k → y.2 < 18446744073709551616
  | 0, y, h => by cases h
  | k + 1, y, h => by
    rw [rdIl, List.mem_append] at h
    rcases h with h | h
    · exact rdIl_lt x k y h
    · rw [List.mem_singleton.1 h]
      exact rN_lt _ _ 8
theorem rdDl_lt (t : ByteArray) (d : De) (h : d ∈ (opS t).lst) : d.1 < 4294967296 := by
  obtain ⟨p, hp, rfl⟩ := List.mem_map.1 (show d ∈ (oDe t).map deOf from h)
  obtain ⟨c, _, rfl⟩ := rdDl_mem (o7 t) 8 p hp
  exact rN_lt _ _ 4
theorem okD_split (p : Nat × ByteArray) : okD p = (okRs p.2 && okDe (deOf p)) := rfl
theorem opn_may {t : ByteArray} (h1 : oHead t = 76) (h2 : readB (oCt t) = true) (h3 : ∀ c, c < 8 → okRs (dTx t c) = true) (h4 : endOf (o8 t).s (o8 t).sh = 0) : opnB t = mayB (opS t) := by
  have hall : (oDe t).all okD = ((oDe t).map deOf).all okDe := by
    rw [List.all_map]
    have key : ∀ l : List (Nat × ByteArray), (∀ p, p ∈ l → okRs p.2 = true) → l.all okD = l.all (okDe ∘ deOf) := by
      intro l
      induction l with
      | nil => intro _; rfl
      | cons p l ih =>
        intro h
        rw [List.all_cons, List.all_cons, ih (fun q hq => h q (by simp [hq])), okD_split, h p (by simp)]
        rfl
    refine key _ (fun p hp => ?_)
    obtain ⟨c, hc, rfl⟩ := rdDl_mem (o7 t) 8 p hp
    exact h3 c hc
  rw [opnB, h1, h2, hall, h4]
  show _ = (memB (oNx t) && (within t && (keysB (oIt t) && ((oDe t).map deOf).all okDe)))
  simp
theorem opn_no1 {t : ByteArray} (h : oHead t ≠ 76) : opnB t = false := by rw [opnB, decide_eq_false h]; rfl
theorem opn_no2 {t : ByteArray} (h : readB (oCt t) = false) : opnB t = false := by rw [opnB, h]; simp
theorem opn_no3 {t : ByteArray} {c : Nat} (hc : c < 8) (h : okRs (dTx t c) = false) : opnB t = false := by
  have : (oDe t).all okD = false := by
    cases hv : (oDe t).all okD with
    | false => rfl
    | true =>
      have := List.all_eq_true.1 hv _ (rdDl_in (o7 t) 8 c hc)
      rw [okD_split, show okRs (rN (rdDs (o7 t) c).s (rdDs (o7 t) c).sh 4, tT ((rdDs (o7 t) c).num 4).s ((rdDs (o7 t) c).num 4).sh).2 = false from h] at this
      cases this
  rw [opnB, this]
  simp
theorem opn_no4 {t : ByteArray} (h : endOf (o8 t).s (o8 t).sh ≠ 0) : opnB t = false := by rw [opnB, decide_eq_false h]; simp
theorem rsR_zero (x : ByteArray) : rsR x = 0 ↔ okRs x = true := by
  unfold rsR
  cases okRs x <;> simp
theorem readE_zero (x : ByteArray) : readE x = 0 ↔ readB x = true := by
  unfold readE
  cases readB x <;> simp
theorem readZ_nat (x : ByteArray) : ((readZ x).toNat : Int) = readZ x := by
  unfold readZ
  split <;> omega
theorem iC_len' (l : List Int) : (iC l).length = l.length := by rw [iC, List.length_map]
def L0 (gs gr : Nat) : List Value := [.int .i64 0, .slice none 0 0, .slice none 0 0, .int .i64 0, .slice none 0 0, .slice (some ⟨gs, 0, none⟩) 9 9, .slice (some ⟨gr, 0, none⟩) 9 9]
/-- The ledger, new. -/
structure Ini (w0 w : World) (g gs gr : Nat) : Prop where
  blk : w.heap[g]? = some (.cells (L0 gs gr).toArray 61 (0, 0))
  st : w.heap[gs]? = some (.cells (iC (stL lst0)).toArray 3 (0, 0))
  rs : w.heap[gr]? = some (.cells (rsC2 (reL lst0)).toArray 50 (0, 0))
  ne : g ≠ gs ∧ g ≠ gr ∧ gs ≠ gr
  bel : Below w0.heap.size w0 w
  fr : w0.heap.size ≤ g ∧ w0.heap.size ≤ gs ∧ w0.heap.size ≤ gr
def obS : Obj := .cells (iC (stL lst0)).toArray 3 (0, 0)
def obR : Obj := .cells (rsC2 (reL lst0)).toArray 50 (0, 0)
def obL (gs gr : Nat) : Obj := .cells (L0 gs gr).toArray 61 (0, 0)
theorem thr_alloc (w : World) (A B C : Obj) : (((w.alloc A).alloc B).alloc C).heap[w.heap.size]? = some A ∧ (((w.alloc A).alloc B).alloc C).heap[w.heap.size + 1]? = some B ∧ (((w.alloc A).alloc B).alloc C).heap[w.heap.size + 2]? = some C := by
  refine ⟨?_, ?_, ?_⟩
  · rw [Below.heap_alloc _ _ _ (by simp <;> omega), Below.heap_alloc _ _ _ (by simp)]
    exact heap_alloc_last w A
  · rw [Below.heap_alloc _ _ _ (by simp)]
    exact snd_alloc w A B
  · have := heap_alloc_last ((w.alloc A).alloc B) C
    simpa using this
theorem thr_bel (w : World) (A B C : Obj) : Below w.heap.size w (((w.alloc A).alloc B).alloc C) := (((Below.refl _ _).alloc (Nat.le_refl _) _).alloc (by simp) _).alloc (by simp; omega) _
theorem ini_1 {w0 w : World} (h : Below w0.heap.size w0 w) : Ini w0 (((w.alloc obS).alloc obR).alloc (obL w.heap.size (w.heap.size + 1))) (w.heap.size + 2) w.heap.size (w.heap.size + 1) := by
  obtain ⟨h1, h2, h3⟩ := thr_alloc w obS obR (obL w.heap.size (w.heap.size + 1))
  have := h.size
  exact ⟨h3, h1, h2, ⟨by omega, by omega, by omega⟩, h.trans ((thr_bel w _ _ _).mono h.size), by omega, by omega, by omega⟩
theorem ini_2 {w0 w : World} (h : Below w0.heap.size w0 w) : Ini w0 (((w.alloc obR).alloc obS).alloc (obL (w.heap.size + 1) w.heap.size)) (w.heap.size + 2) (w.heap.size + 1) w.heap.size := by
  obtain ⟨h1, h2, h3⟩ := thr_alloc w obR obS (obL (w.heap.size + 1) w.heap.size)
  have := h.size
  exact ⟨h3, h2, h1, ⟨by omega, by omega, by omega⟩, h.trans ((thr_bel w _ _ _).mono h.size), by omega, by omega, by omega⟩
theorem Ini.opn {w0 w : World} {g gs gr : Nat} (h : Ini w0 w g gs gr) (t : ByteArray) : Opn w0 (w.alloc (.cells #[.string t, .bool false] 96)) w.heap.size g gs gr ⟨t, false⟩ (L0 gs gr) (stL lst0) (reL lst0) [] (fun _ => True) := by
  have l1 := lt_of_blk h.blk
  have l2 := lt_of_blk h.st
  have l3 := lt_of_blk h.rs
  have hz := h.bel.size
  exact ⟨heap_alloc_last w _, (Below.heap_alloc _ _ _ l1).trans h.blk, (Below.heap_alloc _ _ _ l2).trans h.st, (Below.heap_alloc _ _ _ l3).trans h.rs, ⟨⟨by omega, by omega, by omega⟩, h.ne⟩, stable_true, trivial, fun k hk => (by cases hk), fun k hk => (by cases hk), h.bel.alloc hz _, ⟨⟨hz, h.fr.1⟩, h.fr.2⟩⟩
theorem op_no {t : ByteArray} {w w' : World} (h : opnB t = false) (hb : Below w.heap.size w w') : OpPost t w (.returned (.tuple #[.pointer none, .int .i64 5])) w' := .inr ⟨h, rfl, hb⟩
theorem op_yes {t : ByteArray} {w w' : World} {v : Value} {F : List Nat} (h : opnB t = true) (hl : LmAt F w' v (opS t)) (hf : ∀ b, b ∈ F → w.heap.size ≤ b) (hb : Below w.heap.size w w') : OpPost t w (.returned (.tuple #[v, .int .i64 0])) w' := .inl ⟨h, v, F, rfl, hl, hf, hb⟩
theorem opn_ld {w0 w : World} {t : ByteArray} {b g gs gr cp5 cn ci N1 N2 N3 : Nat} {ad5 an ai : Option Addr} {Z1 : Int} {ML NX : List Int} {IT : List Kb} (h : Opn w0 w b g gs gr (o8 t) [.int .i64 Z1, .slice ad5 ML.length cp5, (.slice an N1 cn), .int .i64 (N2 : Int), (.slice ai N3 ci), .slice (some ⟨gs, 0, none⟩) 9 9, .slice (some ⟨gr, 0, none⟩) 9 9] (stL (opS t).lst) (reL (opS t).lst) (blkR ai ++ (blkR an ++ (blkR ad5 ++ []))) (fun u => (KbIn u ai IT ∧ ∀ z, ai = some z → z.block < u.heap.size ∧ w0.heap.size ≤ z.block) ∧ ((IntsIn u an NX ∧ ∀ z, an = some z → z.block < u.heap.size ∧ w0.heap.size ≤ z.block) ∧ ((IntsIn u ad5 ML ∧ ∀ z, ad5 = some z → z.block < u.heap.size ∧ w0.heap.size ≤ z.block) ∧ True))))
    (q1 : ((opS t).ep : Int) = Z1) (q2 : (opS t).mem = ML) (q3 : (opS t).nxt = NX) (q3l : (opS t).nxt.length = N1) (q4 : (opS t).dn = N2) (q5 : (opS t).its = IT) (q5l : (opS t).its.length = N3) :
    LmAt (fpR g gs gr ad5 an ai) w (.pointer (some ⟨g, 0, none⟩)) (opS t) ∧ ∀ b, b ∈ fpR g gs gr ad5 an ai → w0.heap.size ≤ b := by
  have hap : ∀ (a : Option Addr) (x : Addr), a = some x → x.block ∈ (blkR ai ++ (blkR an ++ (blkR ad5 ++ []))) → (x.block ≠ g ∧ x.block ≠ gs ∧ x.block ≠ gr) ∧ x.block < w.heap.size := fun a x _ hm => ⟨(h.ap _ hm).2, h.lt _ hm⟩
  have m1 : ∀ x, ad5 = some x → x.block ∈ (blkR ai ++ (blkR an ++ (blkR ad5 ++ []))) := fun x hx => List.mem_append.2 (.inr (List.mem_append.2 (.inr (List.mem_append.2 (.inl (mem_blkR.2 ⟨x, hx, rfl⟩))))))
  have m2 : ∀ x, an = some x → x.block ∈ (blkR ai ++ (blkR an ++ (blkR ad5 ++ []))) := fun x hx => List.mem_append.2 (.inr (List.mem_append.2 (.inl (mem_blkR.2 ⟨x, hx, rfl⟩))))
  have m3 : ∀ x, ai = some x → x.block ∈ (blkR ai ++ (blkR an ++ (blkR ad5 ++ []))) := fun x hx => List.mem_append.2 (.inl (mem_blkR.2 ⟨x, hx, rfl⟩))
  refine ⟨⟨g, gs, gr, ad5, an, ai, cp5, cn, ci, rfl, rfl, ⟨by rw [q1, q2, q3l, q4, q5l]; exact h.blk, by rw [q2]; exact h.r.2.2.1.1, by rw [q3]; exact h.r.2.1.1, by rw [q5]; exact h.r.1.1, h.st, h.rs, h.ne.2, fun x hx => hap _ x hx (m1 x hx), fun x hx => hap _ x hx (m2 x hx), fun x hx => hap _ x hx (m3 x hx), by rw [← dJ_8]; exact dJ_len t (Nat.le_refl _)⟩⟩, fun k hk => ?_⟩
  rcases mem_fpR.1 hk with rfl | rfl | rfl | ⟨x, hx, rfl⟩ | ⟨x, hx, rfl⟩ | ⟨x, hx, rfl⟩
  · exact h.fr.1.2
  · exact h.fr.2.1
  · exact h.fr.2.2
  · exact (h.r.2.2.1.2 x hx).2
  · exact (h.r.2.1.2 x hx).2
  · exact (h.r.1.2 x hx).2
set_option maxRecDepth 100000 in
set_option maxHeartbeats 6400000 in
theorem wopen_any (t : ByteArray) (ht : t.size ≤ maxLen) (w : World) :
    Calls Tryz.prog 12 #[.string t] w (OpPost t w) := by
  have hz : ∀ {y : Rd}, y.s.size ≤ t.size → y.s.size ≤ 9223372036854775807 := fun h => by unfold maxLen at ht; omega
  have z1 : (o1 t).s.size ≤ t.size := rd_sizes _ _ 1
  have z2 : (o2 t).s.size ≤ t.size := Nat.le_trans (tx_sizes _ _) z1
  have z3 : (o3 t).s.size ≤ t.size := Nat.le_trans (rd_sizes _ _ 1) z2
  have z4 : (o4 t).s.size ≤ t.size := Nat.le_trans (oS3_le t (oN t)) z3
  have z5 : (o5 t).s.size ≤ t.size := Nat.le_trans (rd_sizes _ _ 4) z4
  have z6 : (o6 t).s.size ≤ t.size := Nat.le_trans (rd_sizes _ _ 1) z5
  have z7 : (o7 t).s.size ≤ t.size := Nat.le_trans (rdIs_le _ _) z6
  have HZ1 := hid (hz z1)
  have HZI : Hid (∀ j, (rdIs (o6 t) j).s.size ≤ 9223372036854775807) := hid (fun j => hz (Nat.le_trans (rdIs_le _ j) z6))
  have HZD : Hid (∀ j, ((rdDs (o7 t) j).num 4).s.size ≤ 9223372036854775807) := hid (fun j => hz (Nat.le_trans (rd_sizes _ _ 4) (Nat.le_trans (rdDs_le _ j) z7)))
  obtain ⟨N0, eN0⟩ : ∃ N, N = oHead t := ⟨_, rfl⟩
  obtain ⟨T1, eT1⟩ : ∃ T, T = oCt t := ⟨_, rfl⟩
  obtain ⟨N1, eN1⟩ : ∃ N, N = oN t := ⟨_, rfl⟩
  obtain ⟨N2, eN2⟩ : ∃ N, N = oDn t := ⟨_, rfl⟩
  obtain ⟨N3, eN3⟩ : ∃ N, N = oK t := ⟨_, rfl⟩
  have hN1 : N1 < 256 := by rw [eN1]; have := rN_lt (o2 t).s (o2 t).sh 1; simpa [oN] using this
  have hN3 : N3 < 256 := by rw [eN3]; have := rN_lt (o5 t).s (o5 t).sh 1; simpa [oK] using this
  have hN1i : (N1 : Int) < 256 := by omega
  have hN3i : (N3 : Int) < 256 := by omega
  have HE := hid (And.intro eN0 (And.intro eT1 (And.intro eN1 (And.intro eN2 eN3))))
  have HRd : Hid (∀ u : World, Calls Tryz.prog 46 #[.string T1] u fun e w' => ∃ ad cp, e = .returned (.tuple #[.agg #[.int .i64 (readZ T1), .slice ad (readM T1).length cp], .int .i64 (readE T1)]) ∧ IntsIn w' ad (readM T1) ∧ (∀ z, ad = some z → u.heap.size ≤ z.block ∧ z.block < w'.heap.size) ∧ Below u.heap.size u w') := hid (fun u => (vread_any T1 u).mono fun e w' ⟨v, he, ho⟩ => by
    obtain ⟨ad, cp, hv, hi, hx⟩ := ho.slice
    subst hv
    exact ⟨ad, cp, he, hi, hx, ho.bel⟩)
  obtain ⟨Z1, eZ1⟩ : ∃ Z, Z = readZ T1 := ⟨_, rfl⟩
  obtain ⟨ML, eML⟩ : ∃ Z, Z = readM T1 := ⟨_, rfl⟩
  obtain ⟨E1, eE1⟩ : ∃ Z, Z = readE T1 := ⟨_, rfl⟩
  rw [← eZ1, ← eML, ← eE1] at HRd
  have HEr := hid (And.intro eZ1 (And.intro eML eE1))
  clear z1 z2 z3 z4 z5 z6 z7 hz ht eN0 eT1 eN1 eN2 eN3 hN1 hN3 eZ1 eML eE1
  go_enter Tryz.func12, Tryz.ntmps12
  go_upto_region 1 with fail
  go_cut [4] (fun v4 wx => ∃ g gs gr, v4 = .pointer (some ⟨g, 0, none⟩) ∧ Ini w wx g gs gr)
  case first =>
    refine wp_region_G (S := fun _ => True) (ex := []) (by kernel_rfl) ?_
    try (change wpAnyG _ _ _ _ _ _ _ _ _ (World.drew _))
    refine wpAnyG_all (rs := [0, 1]) (by kernel_rfl) (by simp) ?_
    intro i hi
    rcases List.mem_cons.1 hi with rfl | hi
    · clear hi
      refine wpOp_d rfl (by rfl) (fun K hK => ?_)
      go_simp
      rw [mk_ints]
      go_simp
      refine hK _ _ ⟨fun _ => trivial, ?_⟩
      clear hK K
      go_simp
      refine wpAnyG_all (rs := [1]) (by kernel_rfl) (by simp) ?_
      intro i hi
      obtain rfl := List.mem_singleton.1 hi
      clear hi
      refine wpOp_d rfl (by rfl) (fun K hK => ?_)
      go_simp
      rw [mk_ress]
      go_simp
      refine hK _ _ ⟨fun _ => trivial, ?_⟩
      clear hK K
      go_simp
      refine wpAnyG_take (i := 2) (v := ?v1) rfl (by kernel_rfl) (fun _ _ _ h => h) (Or.inl ⟨by rfl, ?hy1⟩) trivial ?rest1
      case hy1 => (intro ww _; go_simp; try with_reducible rfl)
      go_simp
      refine wpAnyG_all (rs := [3]) (by kernel_rfl) (by simp) ?_
      intro i hi
      obtain rfl := List.mem_singleton.1 hi
      clear hi
      refine wpOp_d rfl (by rfl) (fun K hK => ?_)
      go_simp
      refine hK _ _ ⟨fun _ => trivial, ?_⟩
      clear hK K
      go_simp
      refine wpAnyG_take (i := 4) (v := ?v2) rfl (by kernel_rfl) (fun _ _ _ h => h) (Or.inl ⟨by rfl, ?hy2⟩) trivial ?rest2
      case hy2 => (intro ww _; go_simp; try with_reducible rfl)
      go_simp
      refine wpAnyG_done (by kernel_rfl) ?_ _
      go_simp
      go_wp2_with fail
      go_meet
      exact ⟨_, _, _, rfl, ini_1 (Below.refl _ _).drew⟩
    · obtain rfl := List.mem_singleton.1 hi
      clear hi
      refine wpOp_d rfl (by rfl) (fun K hK => ?_)
      go_simp
      rw [mk_ress]
      go_simp
      refine hK _ _ ⟨fun _ => trivial, ?_⟩
      clear hK K
      go_simp
      refine wpAnyG_all (rs := [0]) (by kernel_rfl) (by simp) ?_
      intro i hi
      obtain rfl := List.mem_singleton.1 hi
      clear hi
      refine wpOp_d rfl (by rfl) (fun K hK => ?_)
      go_simp
      rw [mk_ints]
      go_simp
      refine hK _ _ ⟨fun _ => trivial, ?_⟩
      clear hK K
      go_simp
      refine wpAnyG_take (i := 2) (v := ?v51) rfl (by kernel_rfl) (fun _ _ _ h => h) (Or.inl ⟨by rfl, ?hy51⟩) trivial ?rest51
      case hy51 => (intro ww _; go_simp; try with_reducible rfl)
      go_simp
      refine wpAnyG_all (rs := [3]) (by kernel_rfl) (by simp) ?_
      intro i hi
      obtain rfl := List.mem_singleton.1 hi
      clear hi
      refine wpOp_d rfl (by rfl) (fun K hK => ?_)
      go_simp
      refine hK _ _ ⟨fun _ => trivial, ?_⟩
      clear hK K
      go_simp
      refine wpAnyG_take (i := 4) (v := ?v52) rfl (by kernel_rfl) (fun _ _ _ h => h) (Or.inl ⟨by rfl, ?hy52⟩) trivial ?rest52
      case hy52 => (intro ww _; go_simp; try with_reducible rfl)
      go_simp
      refine wpAnyG_done (by kernel_rfl) ?_ _
      go_simp
      go_wp2_with fail
      go_meet
      exact ⟨_, _, _, rfl, ini_2 (Below.refl _ _).drew⟩
  case rest =>
    obtain ⟨g, gs, gr, rfl, hini⟩ := hcut
    have HI := hid hini
    clear hini
    have H0 := hid (HI.out.opn t)
    go_wp2_with (first
      | (go_at_call 45; have := H6; refine (opn_num H6.out 1 1 rfl (by decide) (by decide) N1 HE.out.2.2.1).mono ?_; rintro e w7 ⟨rfl, hq, _⟩; have H7 : Hid (Opn w w7 wc.heap.size g gs gr (o3 t) [.int .i64 Z1, .slice ad5 ML.length cp5, .slice none 0 0, .int .i64 0, .slice none 0 0, .slice (some ⟨gs, 0, none⟩) 9 9, .slice (some ⟨gr, 0, none⟩) 9 9] (stL lst0) (reL lst0) (blkR ad5 ++ []) (fun u => (IntsIn u ad5 ML ∧ ∀ z, ad5 = some z → z.block < u.heap.size ∧ w.heap.size ≤ z.block) ∧ True)) := hid hq; clear hq)
      | (have := H5; refine wl_store_blk rfl 24 _ _ rfl g 0 rfl #[.int .i64 Z1, .slice ad5 ML.length cp5] rfl _ _ H5.out.blk (by simp [L0]) (by kernel_rfl) (by simp [Value.oneCell']) ?_; intro w6 Hz; have H6 : Hid (Opn w w6 wc.heap.size g gs gr (o2 t) [.int .i64 Z1, .slice ad5 ML.length cp5, .slice none 0 0, .int .i64 0, .slice none 0 0, .slice (some ⟨gs, 0, none⟩) 9 9, .slice (some ⟨gr, 0, none⟩) 9 9] (stL lst0) (reL lst0) (blkR ad5 ++ []) (fun u => (IntsIn u ad5 ML ∧ ∀ z, ad5 = some z → z.block < u.heap.size ∧ w.heap.size ≤ z.block) ∧ True)) := hid (H5.out.setg Hz.out.2 Hz.out.1); clear Hz)
      | (go_at_call 46; have := H2; refine (HRd.out _).mono ?_; rintro e w3 ⟨ad5, cp5, rfl, hi5, hx5, hb5⟩; have H5 : Hid (Opn w (w3.alloc (.cells #[.int .i64 Z1, .slice ad5 ML.length cp5] 24)) wc.heap.size g gs gr (o2 t) (L0 gs gr) (stL lst0) (reL lst0) (blkR ad5 ++ []) (fun u => (IntsIn u ad5 ML ∧ ∀ z, ad5 = some z → z.block < u.heap.size ∧ w.heap.size ≤ z.block) ∧ True)) := hid (((H2.out.keep hb5).add (stable_ints ad5 ML w.heap.size) ⟨hi5, fun z hz => ⟨(hx5 z hz).2, by have := (hx5 z hz).1; have := H2.out.bel.size; omega⟩⟩ (fun k hk => by obtain ⟨z, hz, rfl⟩ := mem_blkR.1 hk; exact (hx5 z hz).2) (fun k hk => by obtain ⟨z, hz, rfl⟩ := mem_blkR.1 hk; have h1 := (hx5 z hz).1; have h2 := H2.out.lts; exact ⟨by omega, by omega, by omega, by omega⟩)).keep ((Below.refl _ _).alloc (Nat.le_refl _) (.cells #[.int .i64 Z1, .slice ad5 ML.length cp5] 24))); clear hi5 hx5 hb5)
      | (go_at_call 47; have := H1; refine (opn_txt H1.out T1 HE.out.2.1 HZ1.out).mono ?_; rintro e w2 ⟨rfl, hq, _⟩; have H2 : Hid (Opn w w2 wc.heap.size g gs gr (o2 t) (L0 gs gr) (stL lst0) (reL lst0) [] (fun _ => True)) := hid hq; clear hq)
      | (go_at_call 45; have := H0; refine (opn_num H0.out 1 1 rfl (by decide) (by decide) N0 HE.out.1).mono ?_; rintro e w1 ⟨rfl, hq, _⟩; have H1 : Hid (Opn w w1 wc.heap.size g gs gr (o1 t) (L0 gs gr) (stL lst0) (reL lst0) [] (fun _ => True)) := hid hq; clear hq))
    have HB1 : Hid (((wc.heap.size < w7.heap.size ∧ g < w7.heap.size) ∧ gs < w7.heap.size ∧ gr < w7.heap.size) ∧ (∀ k, k ∈ (blkR ad5 ++ []) → k < w7.heap.size) ∧ w.heap.size ≤ w7.heap.size) := hid ⟨H7.out.lts, H7.out.lt, H7.out.bel.size⟩
    go_loopw [10] (fun i wr => ∃ (j : Nat) (v : Value), j ≤ N1 ∧ i = .int .i64 (j : Int) ∧ Opn w wr wc.heap.size g gs gr (oS3 t j) [.int .i64 Z1, .slice ad5 ML.length cp5, v, .int .i64 0, .slice none 0 0, .slice (some ⟨gs, 0, none⟩) 9 9, .slice (some ⟨gr, 0, none⟩) 9 9] (stL lst0) (reL lst0) (blkR ad5 ++ []) (fun u => (IntsIn u ad5 ML ∧ ∀ z, ad5 = some z → z.block < u.heap.size ∧ w.heap.size ≤ z.block) ∧ True) ∧ wr.ownsRow w7.heap.size 3 1 v j (iC (rdL (o3 t).s (o3 t).sh j)) ∧ w7.heap.size ≤ wr.heap.size)
      (fun i _ => ((N1 : Int) - intOf i).toNat)
    case atStart => exact ⟨0, .slice none 0 0, Nat.zero_le _, rfl, H7.out, ⟨rfl, .inl ⟨rfl, rfl⟩⟩, Nat.le_refl _⟩
    case round =>
      obtain ⟨j, v, hj, rfl, hO, hW, hZ⟩ := hrel
      have HO := hid (And.intro hO (And.intro hW hZ))
      clear hO hW hZ
      have hj0 : (0 : Int) ≤ (j : Int) := Int.natCast_nonneg _
      by_cases hjn : j = N1
      · have hj1 : ¬ ((j : Int) < (N1 : Int)) := by omega
        rw [hjn] at HO
        obtain ⟨an, cn, rfl, hIn, hAn⟩ := own_nums HO.out.2.1 (rdL_len _ _ N1)
        obtain ⟨NX, eNX⟩ : ∃ l, l = (rdL (o3 t).s (o3 t).sh N1) := ⟨_, rfl⟩
        rw [← eNX] at hIn
        have HNX := hid eNX
        have H20 : Hid (Opn w wr wc.heap.size g gs gr (o4 t) [.int .i64 Z1, .slice ad5 ML.length cp5, (.slice an N1 cn), .int .i64 0, .slice none 0 0, .slice (some ⟨gs, 0, none⟩) 9 9, .slice (some ⟨gr, 0, none⟩) 9 9] (stL lst0) (reL lst0) (blkR an ++ (blkR ad5 ++ [])) (fun u => (IntsIn u an NX ∧ ∀ z, an = some z → z.block < u.heap.size ∧ w.heap.size ≤ z.block) ∧ ((IntsIn u ad5 ML ∧ ∀ z, ad5 = some z → z.block < u.heap.size ∧ w.heap.size ≤ z.block) ∧ True))) := hid (by
          have h := HO.out.1.add (stable_ints an NX w.heap.size) ⟨hIn, fun z hz => ⟨(hAn z hz).1, by have := (hAn z hz).2; have := HB1.out.2.2; omega⟩⟩ (fun k hk => by obtain ⟨z, hz, rfl⟩ := mem_blkR.1 hk; exact (hAn z hz).1) (fun k hk => by obtain ⟨z, hz, rfl⟩ := mem_blkR.1 hk; have h1 := (hAn z hz).2; have h2 := HB1.out.1; exact ⟨by omega, by omega, by omega, by omega⟩)
          rw [show oS3 t N1 = o4 t by rw [HE.out.2.2.1]; rfl] at h
          exact h)
        clear hIn hAn eNX hj hjn
        go_wp2_with (first
          | (go_at_call 45; have := H22; refine (opn_num H22.out 1 1 rfl (by decide) (by decide) N3 HE.out.2.2.2.2).mono ?_; rintro e w23 ⟨rfl, hq, _⟩; have H23 : Hid (Opn w w23 wc.heap.size g gs gr (o6 t) [.int .i64 Z1, .slice ad5 ML.length cp5, (.slice an N1 cn), .int .i64 (N2 : Int), .slice none 0 0, .slice (some ⟨gs, 0, none⟩) 9 9, .slice (some ⟨gr, 0, none⟩) 9 9] (stL lst0) (reL lst0) (blkR an ++ (blkR ad5 ++ [])) (fun u => (IntsIn u an NX ∧ ∀ z, an = some z → z.block < u.heap.size ∧ w.heap.size ≤ z.block) ∧ ((IntsIn u ad5 ML ∧ ∀ z, ad5 = some z → z.block < u.heap.size ∧ w.heap.size ≤ z.block) ∧ True))) := hid hq; clear hq; clear c3 f3)
          | (go_at_call 45; have := H20; refine (opn_num H20.out 4 4 rfl (by decide) (by decide) N2 HE.out.2.2.2.1).mono ?_; rintro e w21 ⟨rfl, hq, _⟩; have H21 : Hid (Opn w w21 wc.heap.size g gs gr (o5 t) [.int .i64 Z1, .slice ad5 ML.length cp5, (.slice an N1 cn), .int .i64 0, .slice none 0 0, .slice (some ⟨gs, 0, none⟩) 9 9, .slice (some ⟨gr, 0, none⟩) 9 9] (stL lst0) (reL lst0) (blkR an ++ (blkR ad5 ++ [])) (fun u => (IntsIn u an NX ∧ ∀ z, an = some z → z.block < u.heap.size ∧ w.heap.size ≤ z.block) ∧ ((IntsIn u ad5 ML ∧ ∀ z, ad5 = some z → z.block < u.heap.size ∧ w.heap.size ≤ z.block) ∧ True))) := hid hq; clear hq; have c3 := cell_at H21.out.blk 3 _ rfl; have f3 := free_at H21.out.blk 3; have H22 : Hid (Opn w (w21.setCell ⟨g, 3, none⟩ (.int .i64 (N2 : Int))) wc.heap.size g gs gr (o5 t) [.int .i64 Z1, .slice ad5 ML.length cp5, (.slice an N1 cn), .int .i64 (N2 : Int), .slice none 0 0, .slice (some ⟨gs, 0, none⟩) 9 9, .slice (some ⟨gr, 0, none⟩) 9 9] (stL lst0) (reL lst0) (blkR an ++ (blkR ad5 ++ [])) (fun u => (IntsIn u an NX ∧ ∀ z, an = some z → z.block < u.heap.size ∧ w.heap.size ≤ z.block) ∧ ((IntsIn u ad5 ML ∧ ∀ z, ad5 = some z → z.block < u.heap.size ∧ w.heap.size ≤ z.block) ∧ True))) := hid (H21.out.setg (one_cellR _ g 3 _) ((blk_set H21.out.blk 3 _).trans (by simp)))))
        have HB2 : Hid (((wc.heap.size < w23.heap.size ∧ g < w23.heap.size) ∧ gs < w23.heap.size ∧ gr < w23.heap.size) ∧ (∀ k, k ∈ (blkR an ++ (blkR ad5 ++ [])) → k < w23.heap.size) ∧ w.heap.size ≤ w23.heap.size) := hid ⟨H23.out.lts, H23.out.lt, H23.out.bel.size⟩
        go_loopw [11, 12] (fun i _ wr => ∃ (j : Nat) (v : Value), j ≤ N3 ∧ i = .int .i64 (j : Int) ∧ Opn w wr wc.heap.size g gs gr (rdIs (o6 t) j) [.int .i64 Z1, .slice ad5 ML.length cp5, (.slice an N1 cn), .int .i64 (N2 : Int), v, .slice (some ⟨gs, 0, none⟩) 9 9, .slice (some ⟨gr, 0, none⟩) 9 9] (stL lst0) (reL lst0) (blkR an ++ (blkR ad5 ++ [])) (fun u => (IntsIn u an NX ∧ ∀ z, an = some z → z.block < u.heap.size ∧ w.heap.size ≤ z.block) ∧ ((IntsIn u ad5 ML ∧ ∀ z, ad5 = some z → z.block < u.heap.size ∧ w.heap.size ≤ z.block) ∧ True)) ∧ wr.ownsRow w23.heap.size 79 2 v j (kbC (rdIl (o6 t) j)) ∧ w23.heap.size ≤ wr.heap.size)
          (fun i _ _ => ((N3 : Int) - intOf i).toNat)
        case atStart => exact ⟨0, .slice none 0 0, Nat.zero_le _, rfl, H23.out, ⟨rfl, .inl ⟨rfl, rfl⟩⟩, Nat.le_refl _⟩
        case round =>
          obtain ⟨j, v, hj, rfl, hO, hW, hZ⟩ := hrel
          have HO := hid (And.intro hO (And.intro hW hZ))
          clear hO hW hZ
          have hj0 : (0 : Int) ≤ (j : Int) := Int.natCast_nonneg _
          by_cases hjn : j = N3
          · have hj1 : ¬ ((j : Int) < (N3 : Int)) := by omega
            rw [hjn] at HO
            obtain ⟨ai, ci, rfl, hIn, hAn⟩ := own_keys HO.out.2.1 (rdIl_len _ N3)
            obtain ⟨IT, eIT⟩ : ∃ l, l = rdIl (o6 t) N3 := ⟨_, rfl⟩
            rw [← eIT] at hIn
            have HIT := hid eIT
            have H30 : Hid (Opn w wr wc.heap.size g gs gr (o7 t) [.int .i64 Z1, .slice ad5 ML.length cp5, (.slice an N1 cn), .int .i64 (N2 : Int), (.slice ai N3 ci), .slice (some ⟨gs, 0, none⟩) 9 9, .slice (some ⟨gr, 0, none⟩) 9 9] (stL lst0) (reL lst0) (blkR ai ++ (blkR an ++ (blkR ad5 ++ []))) (fun u => (KbIn u ai IT ∧ ∀ z, ai = some z → z.block < u.heap.size ∧ w.heap.size ≤ z.block) ∧ ((IntsIn u an NX ∧ ∀ z, an = some z → z.block < u.heap.size ∧ w.heap.size ≤ z.block) ∧ ((IntsIn u ad5 ML ∧ ∀ z, ad5 = some z → z.block < u.heap.size ∧ w.heap.size ≤ z.block) ∧ True)))) := hid (by
              have h := HO.out.1.add (stable_keys ai IT w.heap.size) ⟨hIn, fun z hz => ⟨(hAn z hz).1, by have := (hAn z hz).2; have := HB2.out.2.2; omega⟩⟩ (fun k hk => by obtain ⟨z, hz, rfl⟩ := mem_blkR.1 hk; exact (hAn z hz).1) (fun k hk => by obtain ⟨z, hz, rfl⟩ := mem_blkR.1 hk; have h1 := (hAn z hz).2; have h2 := HB2.out.1; exact ⟨by omega, by omega, by omega, by omega⟩)
              rw [show rdIs (o6 t) N3 = o7 t by rw [HE.out.2.2.2.2]; rfl] at h
              exact h)
            clear hIn hAn eIT hj hjn
            go_wp2
            go_loopw [13, 14, 15, 8] (fun i _ _ e wr => ∃ (j : Nat) (Z : Int), j ≤ 8 ∧ i = .int .i64 ((j : Int) + 1) ∧ e = .int .i64 Z ∧ (Z = 0 ↔ E1 = 0 ∧ ∀ c, c < j → okRs (dTx t c) = true) ∧ Opn w wr wc.heap.size g gs gr (rdDs (o7 t) j) [.int .i64 Z1, .slice ad5 ML.length cp5, (.slice an N1 cn), .int .i64 (N2 : Int), (.slice ai N3 ci), .slice (some ⟨gs, 0, none⟩) 9 9, .slice (some ⟨gr, 0, none⟩) 9 9] (stL (dJ t j)) (reL (dJ t j)) (blkR ai ++ (blkR an ++ (blkR ad5 ++ []))) (fun u => (KbIn u ai IT ∧ ∀ z, ai = some z → z.block < u.heap.size ∧ w.heap.size ≤ z.block) ∧ ((IntsIn u an NX ∧ ∀ z, an = some z → z.block < u.heap.size ∧ w.heap.size ≤ z.block) ∧ ((IntsIn u ad5 ML ∧ ∀ z, ad5 = some z → z.block < u.heap.size ∧ w.heap.size ≤ z.block) ∧ True))))
              (fun i _ _ _ _ => ((9 : Int) - intOf i).toNat)
            case atStart => exact ⟨0, E1, Nat.zero_le _, rfl, rfl, ⟨fun h => ⟨h, fun c hc => by omega⟩, fun h => h.1⟩, H30.out⟩
            case round =>
              obtain ⟨j, Z, hj, rfl, rfl, hZi, hO⟩ := hrel
              have HO := hid hO
              have HZi := hid hZi
              clear hO hZi
              have hj0 : (0 : Int) ≤ (j : Int) := Int.natCast_nonneg _
              by_cases hjn : j = 8
              · have hj1 : ¬ (((j : Int) + 1) ≤ 8) := by omega
                rw [hjn] at HO HZi
                have H40 : Hid (Opn w wr wc.heap.size g gs gr (o8 t) [.int .i64 Z1, .slice ad5 ML.length cp5, (.slice an N1 cn), .int .i64 (N2 : Int), (.slice ai N3 ci), .slice (some ⟨gs, 0, none⟩) 9 9, .slice (some ⟨gr, 0, none⟩) 9 9] (stL (opS t).lst) (reL (opS t).lst) (blkR ai ++ (blkR an ++ (blkR ad5 ++ []))) (fun u => (KbIn u ai IT ∧ ∀ z, ai = some z → z.block < u.heap.size ∧ w.heap.size ≤ z.block) ∧ ((IntsIn u an NX ∧ ∀ z, an = some z → z.block < u.heap.size ∧ w.heap.size ≤ z.block) ∧ ((IntsIn u ad5 ML ∧ ∀ z, ad5 = some z → z.block < u.heap.size ∧ w.heap.size ≤ z.block) ∧ True)))) := hid (by have h := HO.out; rw [dJ_8] at h; exact h)
                have HLd := hid (opn_ld H40.out (by rw [HEr.out.1, HE.out.2.1]; exact readZ_nat _) (by rw [HEr.out.2.1, HE.out.2.1]; rfl) (by rw [HNX.out, HE.out.2.2.1]; rfl) (by rw [HE.out.2.2.1]; exact rdL_len _ _ _) HE.out.2.2.2.1.symm (by rw [HIT.out, HE.out.2.2.2.2]; rfl) (by rw [HE.out.2.2.2.2]; exact rdIl_len _ _))
                obtain ⟨EE, eEE⟩ : ∃ z, z = endOf (o8 t).s (o8 t).sh := ⟨_, rfl⟩
                have HEn : Hid (∀ u : World, MrAt u wc.heap.size (o8 t).s (o8 t).sh → Calls Tryz.prog 50 #[.pointer (some ⟨wc.heap.size, 0, none⟩)] u fun e w' => e = .returned (.int .i64 EE) ∧ w' = u) := hid (fun u hu => by rw [eEE]; exact mend_any _ _ _ u hu)
                have HEE := hid eEE
                clear eEE hj hjn hj0
                by_cases h1 : N0 = 76
                · by_cases h2 : Z = 0
                  · have hzz := HZi.out.1 h2
                    have HZz := hid hzz
                    subst h2
                    clear hzz
                    have h1i : (N0 : Int) = 76 := by omega
                    have h1b : ((N0 : Int) == 76) = true := by rw [h1i]; rfl
                    have HN0 : Hid (oHead t = 76) := hid (by rw [← HE.out.1]; exact h1)
                    clear h1
                    by_cases h3 : EE = 0
                    · rw [h3] at HEn
                      have HEz : Hid (endOf (o8 t).s (o8 t).sh = 0) := hid (by rw [← HEE.out]; exact h3)
                      have HrB : Hid (readB (oCt t) = true) := hid ((readE_zero _).1 (by rw [← HE.out.2.1, ← HEr.out.2.2]; exact HZz.out.1))
                      have HOM := hid (opn_may HN0.out HrB.out HZz.out.2 HEz.out)
                      have HMy : Hid (Calls Tryz.prog 51 #[.pointer (some ⟨g, 0, none⟩)] wr fun e w' => e = .returned (.bool (mayB (opS t))) ∧ Below wr.heap.size wr w') := hid (wmayT HLd.out.1 (by
                        have := (text_read (oCt t) HrB.out).1
                        rw [show ((opS t).ep : Int) = readZ (oCt t) from readZ_nat _]
                        exact this) (by rw [show (opS t).nxt.length = oN t from rdL_len _ _ _]; have := HE.out.2.2.1; omega) (by rw [show (opS t).its.length = oK t from rdIl_len _ _]; have := HE.out.2.2.2.2; omega) (fun y hy => rdIl_lt _ _ y hy) (fun d hd => rdDl_lt t d hd))
                      clear h3
                      cases hm : mayB (opS t) with
                      | true =>
                        rw [hm] at HMy HOM
                        clear hm
                        go_wp2_with (first | (go_at_call 51; refine (HMy.out).mono ?_; rintro e w42 ⟨rfl, hq⟩; have H42 := hid hq; clear hq) | (go_at_call 50; refine (HEn.out _ H40.out.rd).mono ?_; rintro e w41 ⟨rfl, hw⟩; replace hw := hw.symm; subst hw))
                        go_ret2
                        exact op_yes HOM.out (HLd.out.1.keep H42.out) HLd.out.2 (H40.out.bel.trans (H42.out.mono H40.out.bel.size))
                      | false =>
                        rw [hm] at HMy HOM
                        clear hm
                        go_wp2_with (first | (go_at_call 51; refine (HMy.out).mono ?_; rintro e w42 ⟨rfl, hq⟩; have H42 := hid hq; clear hq) | (go_at_call 50; refine (HEn.out _ H40.out.rd).mono ?_; rintro e w41 ⟨rfl, hw⟩; replace hw := hw.symm; subst hw))
                        go_ret2
                        exact op_no HOM.out (H40.out.bel.trans (H42.out.mono H40.out.bel.size))
                    · have hf := hid (opn_no4 (t := t) (by rw [← HEE.out]; exact h3))
                      have h3b : (EE == 0) = false := by simpa using h3
                      go_wp2_with (first | (go_at_call 50; refine (HEn.out _ H40.out.rd).mono ?_; rintro e w41 ⟨rfl, hw⟩; replace hw := hw.symm; subst hw))
                      go_ret2
                      exact op_no hf.out H40.out.bel
                  · have hf : Hid (opnB t = false) := hid (by
                      by_cases e1 : E1 = 0
                      · by_cases hall : ∀ c, c < 8 → okRs (dTx t c) = true
                        · exact absurd (HZi.out.2 ⟨e1, hall⟩) h2
                        · obtain ⟨c, hc⟩ := Classical.not_forall.1 hall
                          obtain ⟨hc1, hc2⟩ := Classical.not_imp.1 hc
                          exact opn_no3 hc1 (by simpa using hc2)
                      · refine opn_no2 ?_
                        cases hb : readB (oCt t) with
                        | false => rfl
                        | true => exact absurd (by rw [HEr.out.2.2, HE.out.2.1]; exact (readE_zero _).2 hb) e1)
                    have h1i : (N0 : Int) = 76 := by omega
                    have h1b : ((N0 : Int) == 76) = true := by rw [h1i]; rfl
                    have h2b : (Z == 0) = false := by simpa using h2
                    clear h1
                    go_wp2
                    go_ret2
                    exact op_no hf.out H40.out.bel
                · have hf := hid (opn_no1 (t := t) (by rw [← HE.out.1]; exact h1))
                  have h1i : ¬ ((N0 : Int) = 76) := by omega
                  have h1b : ((N0 : Int) == 76) = false := by simpa using h1i
                  clear h1
                  go_wp2
                  go_ret2
                  exact op_no hf.out H40.out.bel
              · have hj8 : j < 8 := by omega
                obtain ⟨q, eq⟩ : ∃ q : Nat, q = j + 1 := ⟨_, rfl⟩
                have hq1 : ((j : Int) + 1) = (q : Int) := by omega
                have hq0 : (0 : Int) ≤ (q : Int) := Int.natCast_nonneg _
                have hq9 : (q : Int) < 9 := by omega
                have hq8 : (q : Int) ≤ 8 := by omega
                have HJ := hid (And.intro hj8 eq)
                rw [hq1]
                clear hj hjn hj8 hq1 hj0 eq
                obtain ⟨y, ey⟩ : ∃ y, y = dSt t j := ⟨_, rfl⟩
                obtain ⟨tx, ex⟩ : ∃ y, y = dTx t j := ⟨_, rfl⟩
                have HY := hid (And.intro ey ex)
                have HRr : Hid (∀ u : World, Calls Tryz.prog 49 #[.string tx] u fun e w' => e = .returned (.tuple #[.agg #[.int .i64 (rsC tx), .float .f64 (rsF tx)], .int .i64 (rsR tx)]) ∧ Below u.heap.size u w') := hid (fun u => qreadResult_any tx u)
                clear ey ex
                have HO2 : Hid (Opn w wr.drew wc.heap.size g gs gr (rdDs (o7 t) j) [.int .i64 Z1, .slice ad5 ML.length cp5, (.slice an N1 cn), .int .i64 (N2 : Int), (.slice ai N3 ci), .slice (some ⟨gs, 0, none⟩) 9 9, .slice (some ⟨gr, 0, none⟩) 9 9] (stL (dJ t j)) (reL (dJ t j)) (blkR ai ++ (blkR an ++ (blkR ad5 ++ []))) (fun u => (KbIn u ai IT ∧ ∀ z, ai = some z → z.block < u.heap.size ∧ w.heap.size ≤ z.block) ∧ ((IntsIn u an NX ∧ ∀ z, an = some z → z.block < u.heap.size ∧ w.heap.size ≤ z.block) ∧ ((IntsIn u ad5 ML ∧ ∀ z, ad5 = some z → z.block < u.heap.size ∧ w.heap.size ≤ z.block) ∧ True)))) := hid (HO.out.keep (Below.refl _ _).drew)
                have HLS : Hid ((iC (stL (dJ t j))).length = 9 ∧ (rsC2 (reL (dJ t j))).length = 18) := hid (by
                  have h := dJ_len t (show j ≤ 8 by have := HJ.out; omega)
                  rw [iC_len', rsC2_len, stL, reL, List.length_cons, List.length_cons, List.length_map, List.length_map, h]
                  exact ⟨rfl, rfl⟩)
                go_wp2
                refine wp_region_G (S := fun ww => ww.cell? ⟨g, 5, none⟩ = some (.slice (some ⟨gs, 0, none⟩) 9 9)) (ex := [8]) (by kernel_rfl) ?_
                try (change wpAnyG _ _ _ _ _ _ _ _ _ (World.drew _))
                refine wpAnyG_take (i := 0) (v := ?v401) rfl (by kernel_rfl) (fun _ _ _ h => h) (Or.inl ⟨by rfl, ?hy401⟩) (cell_at HO2.out.blk 5 _ rfl) ?rest401
                case hy401 => (intro ww _; go_simp; try with_reducible rfl)
                go_simp
                refine wpAnyG_take (i := 1) (v := ?v402) rfl (by kernel_rfl) (fun _ _ _ h => h) (Or.inl ⟨by rfl, ?hy402⟩) (cell_at HO2.out.blk 5 _ rfl) ?rest402
                case hy402 => (intro ww _; go_simp; try with_reducible rfl)
                go_simp
                refine wpAnyG_take (i := 2) (v := ?v403) rfl (by kernel_rfl) (fun _ _ _ h => h) (Or.inl ⟨by rfl, ?hy403⟩) (cell_at HO2.out.blk 5 _ rfl) ?rest403
                case hy403 => (intro ww _; go_simp; try with_reducible rfl)
                go_simp
                refine wpAnyG_take (i := 3) (v := ?v404) rfl (by kernel_rfl) (fun _ _ _ h => h) (Or.inl ⟨by rfl, ?hy404⟩) (cell_at HO2.out.blk 5 _ rfl) ?rest404
                case hy404 => (intro ww _; go_simp; try with_reducible rfl)
                go_simp
                refine wpAnyG_take (i := 4) (v := ?v405) rfl (by kernel_rfl) (fun _ _ _ h => h) (Or.inl ⟨by rfl, ?hy405⟩) (cell_at HO2.out.blk 5 _ rfl) ?rest405
                case hy405 => (intro ww _; go_simp; try with_reducible rfl)
                go_simp
                refine wpAnyG_take (i := 5) (v := ?v406) rfl (by kernel_rfl) (fun _ _ _ h => h) (Or.inl ⟨by rfl, ?hy406⟩) (cell_at HO2.out.blk 5 _ rfl) ?rest406
                case hy406 => (intro ww _; go_simp; try with_reducible rfl)
                go_simp
                refine wpAnyG_all (rs := [6]) (by kernel_rfl) (by simp) ?_
                intro i hi
                obtain rfl := List.mem_singleton.1 hi
                clear hi
                refine wpOp_d rfl (by rfl) (fun K hK => ?_)
                go_simp
                refine (opn_num HO2.out 4 4 rfl (by decide) (by decide) y HY.out.1).mono ?_
                rintro e w31 ⟨rfl, hq, _⟩
                have H31 : Hid (Opn w w31 wc.heap.size g gs gr ((rdDs (o7 t) j).num 4) [.int .i64 Z1, .slice ad5 ML.length cp5, (.slice an N1 cn), .int .i64 (N2 : Int), (.slice ai N3 ci), .slice (some ⟨gs, 0, none⟩) 9 9, .slice (some ⟨gr, 0, none⟩) 9 9] (stL (dJ t j)) (reL (dJ t j)) (blkR ai ++ (blkR an ++ (blkR ad5 ++ []))) (fun u => (KbIn u ai IT ∧ ∀ z, ai = some z → z.block < u.heap.size ∧ w.heap.size ≤ z.block) ∧ ((IntsIn u an NX ∧ ∀ z, an = some z → z.block < u.heap.size ∧ w.heap.size ≤ z.block) ∧ ((IntsIn u ad5 ML ∧ ∀ z, ad5 = some z → z.block < u.heap.size ∧ w.heap.size ≤ z.block) ∧ True)))) := hid hq
                clear hq
                refine hK _ _ ⟨fun _ => (cell_at H31.out.blk 5 _ rfl), ?_⟩
                clear hK K
                go_simp
                refine wpAnyG_take (i := 7) (v := ?v407) rfl (by kernel_rfl) (fun _ _ _ h => h) (Or.inl ⟨by rfl, ?hy407⟩) (cell_at H31.out.blk 5 _ rfl) ?rest407
                case hy407 => (intro ww _; go_simp; try with_reducible rfl)
                go_simp
                refine wpAnyG_all (rs := [8]) (by kernel_rfl) (by simp) ?_
                intro i hi
                obtain rfl := List.mem_singleton.1 hi
                clear hi
                refine wpOp_d rfl (by rfl) (fun K hK => ?_)
                obtain ⟨uo, cs⟩ : ∃ u, w31.cell? ⟨gs, q, none⟩ = some u := ⟨_, cell_at H31.out.st q _ (List.getElem?_eq_getElem (by have := HLS.out.1; omega))⟩
                have fs := free_at H31.out.st q
                have H32 : Hid (Opn w (w31.setCell ⟨gs, q, none⟩ (.int .i64 (y : Int))) wc.heap.size g gs gr ((rdDs (o7 t) j).num 4) [.int .i64 Z1, .slice ad5 ML.length cp5, (.slice an N1 cn), .int .i64 (N2 : Int), (.slice ai N3 ci), .slice (some ⟨gs, 0, none⟩) 9 9, .slice (some ⟨gr, 0, none⟩) 9 9] (stL (dJ t (j + 1))) (reL (dJ t j)) (blkR ai ++ (blkR an ++ (blkR ad5 ++ []))) (fun u => (KbIn u ai IT ∧ ∀ z, ai = some z → z.block < u.heap.size ∧ w.heap.size ≤ z.block) ∧ ((IntsIn u an NX ∧ ∀ z, an = some z → z.block < u.heap.size ∧ w.heap.size ≤ z.block) ∧ ((IntsIn u ad5 ML ∧ ∀ z, ad5 = some z → z.block < u.heap.size ∧ w.heap.size ≤ z.block) ∧ True)))) := hid (H31.out.sets (one_cellR _ gs q _) (by
                  refine (blk_set H31.out.st q _).trans ?_
                  rw [← st_succ t HJ.out.1, ← iC_set, HY.out.1, HJ.out.2]
                  simp))
                go_simp
                refine hK _ _ ⟨fun h => absurd (by simp) h, ?_⟩
                clear hK K
                go_simp
                refine wpAnyG_done (by kernel_rfl) ?_ _
                go_simp
                clear cs fs uo
                obtain ⟨C5, eC5⟩ : ∃ c, c = rsC tx := ⟨_, rfl⟩
                obtain ⟨F5, eF5⟩ : ∃ c, c = rsF tx := ⟨_, rfl⟩
                have HC5 := hid (And.intro eC5 eF5)
                rw [← eC5, ← eF5] at HRr
                clear eC5 eF5
                have hsp := fun c (hc : c < j + 1) => (show c < j ∨ c = j by omega)
                have HSp := hid hsp
                clear hsp
                cases hrs : okRs tx with
                | true =>
                  have HX : Hid (okRs (dTx t j) = true) := hid (by rw [← HY.out.2]; exact hrs)
                  rw [show rsR tx = 0 from (rsR_zero tx).2 hrs] at HRr
                  clear hrs
                  go_wp2_with (first
                    | (have := H34; refine wl_store_rs rfl _ _ rfl w34.heap.size rfl 0 C5 0 F5 rfl (heap_alloc_last w34 _) ?_; intro w35 Hz; have H35 := hid (And.intro (H34.out.keep (Hz.out.2.below ((Below.refl w34.heap.size w34).alloc (Nat.le_refl _) _) (Nat.le_refl _))) Hz.out.1); clear Hz)
                    | (go_at_call 49; have := H33; refine (HRr.out _).mono ?_; rintro e w34 ⟨rfl, hq⟩; have H34 := hid (H33.out.keep hq); clear hq)
                    | (go_at_call 47; have := H32; refine (opn_txt H32.out tx HY.out.2 (HZD.out j)).mono ?_; rintro e w33 ⟨rfl, hq, _⟩; have H33 : Hid (Opn w w33 wc.heap.size g gs gr (rdDs (o7 t) (j + 1)) [.int .i64 Z1, .slice ad5 ML.length cp5, (.slice an N1 cn), .int .i64 (N2 : Int), (.slice ai N3 ci), .slice (some ⟨gs, 0, none⟩) 9 9, .slice (some ⟨gr, 0, none⟩) 9 9] (stL (dJ t (j + 1))) (reL (dJ t j)) (blkR ai ++ (blkR an ++ (blkR ad5 ++ []))) (fun u => (KbIn u ai IT ∧ ∀ z, ai = some z → z.block < u.heap.size ∧ w.heap.size ≤ z.block) ∧ ((IntsIn u an NX ∧ ∀ z, an = some z → z.block < u.heap.size ∧ w.heap.size ≤ z.block) ∧ ((IntsIn u ad5 ML ∧ ∀ z, ad5 = some z → z.block < u.heap.size ∧ w.heap.size ≤ z.block) ∧ True)))) := hid hq; clear hq))
                  have H36 : Hid (Opn w w35.drew wc.heap.size g gs gr (rdDs (o7 t) (j + 1)) [.int .i64 Z1, .slice ad5 ML.length cp5, (.slice an N1 cn), .int .i64 (N2 : Int), (.slice ai N3 ci), .slice (some ⟨gs, 0, none⟩) 9 9, .slice (some ⟨gr, 0, none⟩) 9 9] (stL (dJ t (j + 1))) (reL (dJ t j)) (blkR ai ++ (blkR an ++ (blkR ad5 ++ []))) (fun u => (KbIn u ai IT ∧ ∀ z, ai = some z → z.block < u.heap.size ∧ w.heap.size ≤ z.block) ∧ ((IntsIn u an NX ∧ ∀ z, an = some z → z.block < u.heap.size ∧ w.heap.size ≤ z.block) ∧ ((IntsIn u ad5 ML ∧ ∀ z, ad5 = some z → z.block < u.heap.size ∧ w.heap.size ≤ z.block) ∧ True))) ∧ RsAt w35.drew w34.heap.size C5 F5) := hid ⟨H35.out.1.keep (Below.refl _ _).drew, H35.out.2.keep (Below.refl _ _).drew⟩
                  refine wp_region_G (S := fun ww => ww.cell? ⟨g, 6, none⟩ = some (.slice (some ⟨gr, 0, none⟩) 9 9) ∧ RsAt ww w34.heap.size C5 F5) (ex := [7]) (by kernel_rfl) ?_
                  try (change wpAnyG _ _ _ _ _ _ _ _ _ (World.drew _))
                  refine wpAnyG_take (i := 0) (v := ?v501) rfl (by kernel_rfl) (fun _ _ _ h => h) (Or.inl ⟨by rfl, ?hy501⟩) ⟨cell_at H36.out.1.blk 6 _ rfl, H36.out.2⟩ ?rest501
                  case hy501 => (intro ww _; go_simp; try with_reducible rfl)
                  go_simp
                  refine wpAnyG_take (i := 1) (v := ?v502) rfl (by kernel_rfl) (fun _ _ _ h => h) (Or.inl ⟨by rfl, ?hy502⟩) ⟨cell_at H36.out.1.blk 6 _ rfl, H36.out.2⟩ ?rest502
                  case hy502 => (intro ww _; go_simp; try with_reducible rfl)
                  go_simp
                  refine wpAnyG_take (i := 2) (v := ?v503) rfl (by kernel_rfl) (fun _ _ _ h => h) (Or.inl ⟨by rfl, ?hy503⟩) ⟨cell_at H36.out.1.blk 6 _ rfl, H36.out.2⟩ ?rest503
                  case hy503 => (intro ww _; go_simp; try with_reducible rfl)
                  go_simp
                  refine wpAnyG_take (i := 3) (v := ?v504) rfl (by kernel_rfl) (fun _ _ _ h => h) (Or.inl ⟨by rfl, ?hy504⟩) ⟨cell_at H36.out.1.blk 6 _ rfl, H36.out.2⟩ ?rest504
                  case hy504 => (intro ww hS; obtain ⟨x6, x0, x1⟩ := And.intro hS.1 hS.2.cells; go_simp; try with_reducible rfl)
                  go_simp
                  refine wpAnyG_take (i := 4) (v := ?v505) rfl (by kernel_rfl) (fun _ _ _ h => h) (Or.inl ⟨by rfl, ?hy505⟩) ⟨cell_at H36.out.1.blk 6 _ rfl, H36.out.2⟩ ?rest505
                  case hy505 => (intro ww _; go_simp; try with_reducible rfl)
                  go_simp
                  refine wpAnyG_take (i := 5) (v := ?v506) rfl (by kernel_rfl) (fun _ _ _ h => h) (Or.inl ⟨by rfl, ?hy506⟩) ⟨cell_at H36.out.1.blk 6 _ rfl, H36.out.2⟩ ?rest506
                  case hy506 => (intro ww hS; obtain ⟨x6, x0, x1⟩ := And.intro hS.1 hS.2.cells; go_simp; try with_reducible rfl)
                  go_simp
                  refine wpAnyG_take (i := 6) (v := ?v507) rfl (by kernel_rfl) (fun _ _ _ h => h) (Or.inl ⟨by rfl, ?hy507⟩) ⟨cell_at H36.out.1.blk 6 _ rfl, H36.out.2⟩ ?rest507
                  case hy507 => (intro ww _; go_simp; try with_reducible rfl)
                  go_simp
                  refine wpAnyG_all (rs := [7]) (by kernel_rfl) (by simp) ?_
                  intro i hi
                  obtain rfl := List.mem_singleton.1 hi
                  clear hi
                  refine wpOp_d rfl (by rfl) (fun K hK => ?_)
                  refine owp_store_blk 50 _ _ rfl gr (q * 2) (by rfl) #[.int .i64 C5, .float .f64 F5] (by rfl) _ _ H36.out.1.rs (by have := HLS.out.2; simp; omega) (by kernel_rfl) (by simp [Value.oneCell']) ?_
                  intro w37 Hz
                  have H37 : Hid (Opn w w37 wc.heap.size g gs gr (rdDs (o7 t) (j + 1)) [.int .i64 Z1, .slice ad5 ML.length cp5, (.slice an N1 cn), .int .i64 (N2 : Int), (.slice ai N3 ci), .slice (some ⟨gs, 0, none⟩) 9 9, .slice (some ⟨gr, 0, none⟩) 9 9] (stL (dJ t (j + 1))) (reL (dJ t (j + 1))) (blkR ai ++ (blkR an ++ (blkR ad5 ++ []))) (fun u => (KbIn u ai IT ∧ ∀ z, ai = some z → z.block < u.heap.size ∧ w.heap.size ≤ z.block) ∧ ((IntsIn u an NX ∧ ∀ z, an = some z → z.block < u.heap.size ∧ w.heap.size ≤ z.block) ∧ ((IntsIn u ad5 ML ∧ ∀ z, ad5 = some z → z.block < u.heap.size ∧ w.heap.size ≤ z.block) ∧ True)))) := hid (H36.out.1.setr Hz.out.2 (by
                    rw [Hz.out.1, ← re_succ t HJ.out.1, ← HY.out.2, ← HC5.out.1, ← HC5.out.2, ← HJ.out.2, ← rsC2_set _ _ _ (by have := HLS.out.2; rw [rsC2_len] at this; omega)]
                    rfl))
                  clear Hz
                  refine hK _ _ ⟨fun h => absurd (by simp) h, ?_⟩
                  clear hK K
                  go_simp
                  refine wpAnyG_done (by kernel_rfl) ?_ _
                  go_simp
                  go_wp2
                  go_roundw
                  case rel => exact ⟨j + 1, Z, by have := HJ.out; omega, by have := HJ.out; go_num, rfl, ⟨fun h => ⟨(HZi.out.1 h).1, fun c hc => by rcases HSp.out c hc with h1 | h1; exact (HZi.out.1 h).2 c h1; rw [h1]; exact HX.out⟩, fun h => HZi.out.2 ⟨h.1, fun c hc => h.2 c (by omega)⟩⟩, H37.out⟩
                  case measure => simp [intOf]; omega
                | false =>
                  have HX : Hid (okRs (dTx t j) = false) := hid (by rw [← HY.out.2]; exact hrs)
                  rw [show rsR tx = 5 by rw [rsR, hrs]; rfl] at HRr
                  clear hrs
                  go_wp2_with (first
                    | (have := H34; refine wl_store_rs rfl _ _ rfl w34.heap.size rfl 0 C5 0 F5 rfl (heap_alloc_last w34 _) ?_; intro w35 Hz; have H35 := hid (And.intro (H34.out.keep (Hz.out.2.below ((Below.refl w34.heap.size w34).alloc (Nat.le_refl _) _) (Nat.le_refl _))) Hz.out.1); clear Hz)
                    | (go_at_call 49; have := H33; refine (HRr.out _).mono ?_; rintro e w34 ⟨rfl, hq⟩; have H34 := hid (H33.out.keep hq); clear hq)
                    | (go_at_call 47; have := H32; refine (opn_txt H32.out tx HY.out.2 (HZD.out j)).mono ?_; rintro e w33 ⟨rfl, hq, _⟩; have H33 : Hid (Opn w w33 wc.heap.size g gs gr (rdDs (o7 t) (j + 1)) [.int .i64 Z1, .slice ad5 ML.length cp5, (.slice an N1 cn), .int .i64 (N2 : Int), (.slice ai N3 ci), .slice (some ⟨gs, 0, none⟩) 9 9, .slice (some ⟨gr, 0, none⟩) 9 9] (stL (dJ t (j + 1))) (reL (dJ t j)) (blkR ai ++ (blkR an ++ (blkR ad5 ++ []))) (fun u => (KbIn u ai IT ∧ ∀ z, ai = some z → z.block < u.heap.size ∧ w.heap.size ≤ z.block) ∧ ((IntsIn u an NX ∧ ∀ z, an = some z → z.block < u.heap.size ∧ w.heap.size ≤ z.block) ∧ ((IntsIn u ad5 ML ∧ ∀ z, ad5 = some z → z.block < u.heap.size ∧ w.heap.size ≤ z.block) ∧ True)))) := hid hq; clear hq))
                  have H36 : Hid (Opn w w35.drew wc.heap.size g gs gr (rdDs (o7 t) (j + 1)) [.int .i64 Z1, .slice ad5 ML.length cp5, (.slice an N1 cn), .int .i64 (N2 : Int), (.slice ai N3 ci), .slice (some ⟨gs, 0, none⟩) 9 9, .slice (some ⟨gr, 0, none⟩) 9 9] (stL (dJ t (j + 1))) (reL (dJ t j)) (blkR ai ++ (blkR an ++ (blkR ad5 ++ []))) (fun u => (KbIn u ai IT ∧ ∀ z, ai = some z → z.block < u.heap.size ∧ w.heap.size ≤ z.block) ∧ ((IntsIn u an NX ∧ ∀ z, an = some z → z.block < u.heap.size ∧ w.heap.size ≤ z.block) ∧ ((IntsIn u ad5 ML ∧ ∀ z, ad5 = some z → z.block < u.heap.size ∧ w.heap.size ≤ z.block) ∧ True))) ∧ RsAt w35.drew w34.heap.size C5 F5) := hid ⟨H35.out.1.keep (Below.refl _ _).drew, H35.out.2.keep (Below.refl _ _).drew⟩
                  refine wp_region_G (S := fun ww => ww.cell? ⟨g, 6, none⟩ = some (.slice (some ⟨gr, 0, none⟩) 9 9) ∧ RsAt ww w34.heap.size C5 F5) (ex := [7]) (by kernel_rfl) ?_
                  try (change wpAnyG _ _ _ _ _ _ _ _ _ (World.drew _))
                  refine wpAnyG_take (i := 0) (v := ?v601) rfl (by kernel_rfl) (fun _ _ _ h => h) (Or.inl ⟨by rfl, ?hy601⟩) ⟨cell_at H36.out.1.blk 6 _ rfl, H36.out.2⟩ ?rest601
                  case hy601 => (intro ww _; go_simp; try with_reducible rfl)
                  go_simp
                  refine wpAnyG_take (i := 1) (v := ?v602) rfl (by kernel_rfl) (fun _ _ _ h => h) (Or.inl ⟨by rfl, ?hy602⟩) ⟨cell_at H36.out.1.blk 6 _ rfl, H36.out.2⟩ ?rest602
                  case hy602 => (intro ww _; go_simp; try with_reducible rfl)
                  go_simp
                  refine wpAnyG_take (i := 2) (v := ?v603) rfl (by kernel_rfl) (fun _ _ _ h => h) (Or.inl ⟨by rfl, ?hy603⟩) ⟨cell_at H36.out.1.blk 6 _ rfl, H36.out.2⟩ ?rest603
                  case hy603 => (intro ww _; go_simp; try with_reducible rfl)
                  go_simp
                  refine wpAnyG_take (i := 3) (v := ?v604) rfl (by kernel_rfl) (fun _ _ _ h => h) (Or.inl ⟨by rfl, ?hy604⟩) ⟨cell_at H36.out.1.blk 6 _ rfl, H36.out.2⟩ ?rest604
                  case hy604 => (intro ww hS; obtain ⟨x6, x0, x1⟩ := And.intro hS.1 hS.2.cells; go_simp; try with_reducible rfl)
                  go_simp
                  refine wpAnyG_take (i := 4) (v := ?v605) rfl (by kernel_rfl) (fun _ _ _ h => h) (Or.inl ⟨by rfl, ?hy605⟩) ⟨cell_at H36.out.1.blk 6 _ rfl, H36.out.2⟩ ?rest605
                  case hy605 => (intro ww _; go_simp; try with_reducible rfl)
                  go_simp
                  refine wpAnyG_take (i := 5) (v := ?v606) rfl (by kernel_rfl) (fun _ _ _ h => h) (Or.inl ⟨by rfl, ?hy606⟩) ⟨cell_at H36.out.1.blk 6 _ rfl, H36.out.2⟩ ?rest606
                  case hy606 => (intro ww hS; obtain ⟨x6, x0, x1⟩ := And.intro hS.1 hS.2.cells; go_simp; try with_reducible rfl)
                  go_simp
                  refine wpAnyG_take (i := 6) (v := ?v607) rfl (by kernel_rfl) (fun _ _ _ h => h) (Or.inl ⟨by rfl, ?hy607⟩) ⟨cell_at H36.out.1.blk 6 _ rfl, H36.out.2⟩ ?rest607
                  case hy607 => (intro ww _; go_simp; try with_reducible rfl)
                  go_simp
                  refine wpAnyG_all (rs := [7]) (by kernel_rfl) (by simp) ?_
                  intro i hi
                  obtain rfl := List.mem_singleton.1 hi
                  clear hi
                  refine wpOp_d rfl (by rfl) (fun K hK => ?_)
                  refine owp_store_blk 50 _ _ rfl gr (q * 2) (by rfl) #[.int .i64 C5, .float .f64 F5] (by rfl) _ _ H36.out.1.rs (by have := HLS.out.2; simp; omega) (by kernel_rfl) (by simp [Value.oneCell']) ?_
                  intro w37 Hz
                  have H37 : Hid (Opn w w37 wc.heap.size g gs gr (rdDs (o7 t) (j + 1)) [.int .i64 Z1, .slice ad5 ML.length cp5, (.slice an N1 cn), .int .i64 (N2 : Int), (.slice ai N3 ci), .slice (some ⟨gs, 0, none⟩) 9 9, .slice (some ⟨gr, 0, none⟩) 9 9] (stL (dJ t (j + 1))) (reL (dJ t (j + 1))) (blkR ai ++ (blkR an ++ (blkR ad5 ++ []))) (fun u => (KbIn u ai IT ∧ ∀ z, ai = some z → z.block < u.heap.size ∧ w.heap.size ≤ z.block) ∧ ((IntsIn u an NX ∧ ∀ z, an = some z → z.block < u.heap.size ∧ w.heap.size ≤ z.block) ∧ ((IntsIn u ad5 ML ∧ ∀ z, ad5 = some z → z.block < u.heap.size ∧ w.heap.size ≤ z.block) ∧ True)))) := hid (H36.out.1.setr Hz.out.2 (by
                    rw [Hz.out.1, ← re_succ t HJ.out.1, ← HY.out.2, ← HC5.out.1, ← HC5.out.2, ← HJ.out.2, ← rsC2_set _ _ _ (by have := HLS.out.2; rw [rsC2_len] at this; omega)]
                    rfl))
                  clear Hz
                  refine hK _ _ ⟨fun h => absurd (by simp) h, ?_⟩
                  clear hK K
                  go_simp
                  refine wpAnyG_done (by kernel_rfl) ?_ _
                  go_simp
                  go_wp2
                  go_roundw
                  case rel => exact ⟨j + 1, 5, by have := HJ.out; omega, by have := HJ.out; go_num, rfl, ⟨fun h => (by cases h), fun h => (by have := h.2 j (by omega); rw [HX.out] at this; cases this)⟩, H37.out⟩
                  case measure => simp [intOf]; omega
          · have hj1 : (j : Int) < (N3 : Int) := by omega
            have HJ := hid (And.intro hj hjn)
            clear hj hjn
            obtain ⟨y, ey⟩ : ∃ y, y = rN (rdIs (o6 t) j).txt.s (rdIs (o6 t) j).txt.sh 8 := ⟨_, rfl⟩
            obtain ⟨tk, ek⟩ : ∃ y, y = tT (rdIs (o6 t) j).s (rdIs (o6 t) j).sh := ⟨_, rfl⟩
            have HY := hid (And.intro ey ek)
            clear ey ek
            go_wp2_with (go_at_call 47; refine (opn_txt HO.out.1 tk HY.out.2 (HZI.out j)).mono ?_; rintro e w24 ⟨rfl, hq, hkp⟩; have H24 : Hid (Opn w w24 wc.heap.size g gs gr (rdIs (o6 t) j).txt [.int .i64 Z1, .slice ad5 ML.length cp5, (.slice an N1 cn), .int .i64 (N2 : Int), v, .slice (some ⟨gs, 0, none⟩) 9 9, .slice (some ⟨gr, 0, none⟩) 9 9] (stL lst0) (reL lst0) (blkR an ++ (blkR ad5 ++ [])) (fun u => (IntsIn u an NX ∧ ∀ z, an = some z → z.block < u.heap.size ∧ w.heap.size ≤ z.block) ∧ ((IntsIn u ad5 ML ∧ ∀ z, ad5 = some z → z.block < u.heap.size ∧ w.heap.size ≤ z.block) ∧ True))) := hid hq; have HK24 : Hid (w24.ownsRow w23.heap.size 79 2 v j (kbC (rdIl (o6 t) j)) ∧ w23.heap.size ≤ w24.heap.size) := hid ⟨own_stay HO.out.2.1 (fun k h1 h2 => hkp.block k h2 (by have := HB2.out; omega) (by simp)), Nat.le_trans HO.out.2.2 hkp.size⟩; clear hq hkp)
            have HO2 : Hid (Opn w w24.drew wc.heap.size g gs gr (rdIs (o6 t) j).txt [.int .i64 Z1, .slice ad5 ML.length cp5, (.slice an N1 cn), .int .i64 (N2 : Int), v, .slice (some ⟨gs, 0, none⟩) 9 9, .slice (some ⟨gr, 0, none⟩) 9 9] (stL lst0) (reL lst0) (blkR an ++ (blkR ad5 ++ [])) (fun u => (IntsIn u an NX ∧ ∀ z, an = some z → z.block < u.heap.size ∧ w.heap.size ≤ z.block) ∧ ((IntsIn u ad5 ML ∧ ∀ z, ad5 = some z → z.block < u.heap.size ∧ w.heap.size ≤ z.block) ∧ True))) := hid (H24.out.keep (Below.refl _ _).drew)
            have HOw := hid (own_stay (w' := w24.drew) HK24.out.1 (fun _ _ _ => rfl))
            refine wp_region_G (S := fun ww => ww.cell? ⟨g, 4, none⟩ = some v) (ex := [13]) (by kernel_rfl) ?_
            try (change wpAnyG _ _ _ _ _ _ _ _ _ (World.drew _))
            refine wpAnyG_take (i := 0) (v := ?v301) rfl (by kernel_rfl) (fun _ _ _ h => h) (Or.inl ⟨by rfl, ?hy301⟩) (cell_at HO2.out.blk 4 _ rfl) ?rest301
            case hy301 => (intro ww _; go_simp; try with_reducible rfl)
            go_simp
            refine wpAnyG_take (i := 1) (v := ?v302) rfl (by kernel_rfl) (fun _ _ _ h => h) (Or.inl ⟨by rfl, ?hy302⟩) (cell_at HO2.out.blk 4 _ rfl) ?rest302
            case hy302 => (intro ww _; go_simp; try with_reducible rfl)
            go_simp
            refine wpAnyG_take (i := 2) (v := ?v303) rfl (by kernel_rfl) (fun _ _ _ h => h) (Or.inl ⟨by rfl, ?hy303⟩) (cell_at HO2.out.blk 4 _ rfl) ?rest303
            case hy303 => (intro ww _; go_simp; try with_reducible rfl)
            go_simp
            refine wpAnyG_take (i := 3) (v := ?v304) rfl (by kernel_rfl) (fun _ _ _ h => h) (Or.inl ⟨by rfl, ?hy304⟩) (cell_at HO2.out.blk 4 _ rfl) ?rest304
            case hy304 => (intro ww _; go_simp; try with_reducible rfl)
            go_simp
            refine wpAnyG_take (i := 4) (v := ?v305) rfl (by kernel_rfl) (fun _ _ _ h => h) (Or.inl ⟨by rfl, ?hy305⟩) (cell_at HO2.out.blk 4 _ rfl) ?rest305
            case hy305 => (intro ww _; go_simp; try with_reducible rfl)
            go_simp
            refine wpAnyG_take (i := 5) (v := ?v306) rfl (by kernel_rfl) (fun _ _ _ h => h) (Or.inl ⟨by rfl, ?hy306⟩) (cell_at HO2.out.blk 4 _ rfl) ?rest306
            case hy306 => (intro ww _; go_simp; try with_reducible rfl)
            go_simp
            refine wpAnyG_take (i := 6) (v := ?v307) rfl (by kernel_rfl) (fun _ _ _ h => h) (Or.inl ⟨by rfl, ?hy307⟩) (cell_at HO2.out.blk 4 _ rfl) ?rest307
            case hy307 => (intro ww _; go_simp; try with_reducible rfl)
            go_simp
            refine wpAnyG_all (rs := [7]) (by kernel_rfl) (by simp) ?_
            intro i hi
            obtain rfl := List.mem_singleton.1 hi
            clear hi
            refine wpOp_d rfl (by rfl) (fun K hK => ?_)
            go_simp
            refine (opn_bits HO2.out y HY.out.1).mono ?_
            rintro e w25 ⟨rfl, hq, hkp⟩
            have H25 : Hid (Opn w w25 wc.heap.size g gs gr (rdIs (o6 t) (j + 1)) [.int .i64 Z1, .slice ad5 ML.length cp5, (.slice an N1 cn), .int .i64 (N2 : Int), v, .slice (some ⟨gs, 0, none⟩) 9 9, .slice (some ⟨gr, 0, none⟩) 9 9] (stL lst0) (reL lst0) (blkR an ++ (blkR ad5 ++ [])) (fun u => (IntsIn u an NX ∧ ∀ z, an = some z → z.block < u.heap.size ∧ w.heap.size ≤ z.block) ∧ ((IntsIn u ad5 ML ∧ ∀ z, ad5 = some z → z.block < u.heap.size ∧ w.heap.size ≤ z.block) ∧ True))) := hid hq
            have HK25 : Hid (w25.ownsRow w23.heap.size 79 2 v j (kbC (rdIl (o6 t) j)) ∧ w23.heap.size ≤ w25.heap.size) := hid ⟨own_stay HOw.out (fun k h1 h2 => hkp.block k h2 (by have := HB2.out; omega) (by simp)), Nat.le_trans HK24.out.2 hkp.size⟩
            clear hq hkp
            refine hK _ _ ⟨fun _ => (cell_at H25.out.blk 4 _ rfl), ?_⟩
            clear hK K
            go_simp
            refine wpAnyG_take (i := 8) (v := ?v308) rfl (by kernel_rfl) (fun _ _ _ h => h) (Or.inl ⟨by rfl, ?hy308⟩) (cell_at H25.out.blk 4 _ rfl) ?rest308
            case hy308 => (intro ww _; go_simp; try with_reducible rfl)
            go_simp
            refine wpAnyG_all (rs := [9]) (by kernel_rfl) (by simp) ?_
            intro i hi
            obtain rfl := List.mem_singleton.1 hi
            clear hi
            refine wpOp_d rfl (by rfl) (fun K hK => ?_)
            go_simp
            have H26 : Hid (Opn w (w25.alloc (.cells #[.string tk, .int .u64 (y : Int)] 79)) wc.heap.size g gs gr (rdIs (o6 t) (j + 1)) [.int .i64 Z1, .slice ad5 ML.length cp5, (.slice an N1 cn), .int .i64 (N2 : Int), v, .slice (some ⟨gs, 0, none⟩) 9 9, .slice (some ⟨gr, 0, none⟩) 9 9] (stL lst0) (reL lst0) (blkR an ++ (blkR ad5 ++ [])) (fun u => (IntsIn u an NX ∧ ∀ z, an = some z → z.block < u.heap.size ∧ w.heap.size ≤ z.block) ∧ ((IntsIn u ad5 ML ∧ ∀ z, ad5 = some z → z.block < u.heap.size ∧ w.heap.size ≤ z.block) ∧ True))) := hid (H25.out.keep ((Below.refl _ _).alloc (Nat.le_refl _) _))
            refine hK _ _ ⟨fun _ => (cell_at H26.out.blk 4 _ rfl), ?_⟩
            clear hK K
            go_simp
            refine wpAnyG_all (rs := [10]) (by kernel_rfl) (by simp) ?_
            intro i hi
            obtain rfl := List.mem_singleton.1 hi
            clear hi
            refine wpOp_d rfl (by rfl) (fun K hK => ?_)
            refine owp_app_K _ _ rfl w23.heap.size v j (rdIl (o6 t) j) (by rfl) (HK25.out.1.alloc _) w25.heap.size (tk, y) (by rfl) (by simp) (by simp) (by have := HK25.out.2; simp; omega) (by have := HJ.out; omega) ?_
            intro v27 w27 h27 g27
            have H27 : Hid (Opn w w27 wc.heap.size g gs gr (rdIs (o6 t) (j + 1)) [.int .i64 Z1, .slice ad5 ML.length cp5, (.slice an N1 cn), .int .i64 (N2 : Int), v, .slice (some ⟨gs, 0, none⟩) 9 9, .slice (some ⟨gr, 0, none⟩) 9 9] (stL lst0) (reL lst0) (blkR an ++ (blkR ad5 ++ [])) (fun u => (IntsIn u an NX ∧ ∀ z, an = some z → z.block < u.heap.size ∧ w.heap.size ≤ z.block) ∧ ((IntsIn u ad5 ML ∧ ∀ z, ad5 = some z → z.block < u.heap.size ∧ w.heap.size ≤ z.block) ∧ True))) := hid (H26.out.grow g27.out (B := w23.heap.size) (fun k hk => (HK25.out.1.lt k hk).1) HB2.out.1 HB2.out.2.1 HB2.out.2.2)
            have HL27 : Hid (w23.heap.size ≤ w27.heap.size) := hid (by have := g27.out.size; have := HK25.out.2; simp at *; omega)
            obtain ⟨ad27, cp27, hv27, _, _⟩ := own_keys h27.out (by rw [List.length_append, rdIl_len]; rfl)
            subst hv27
            clear g27
            refine hK _ _ ⟨fun _ => (cell_at H27.out.blk 4 _ rfl), ?_⟩
            clear hK K
            go_simp
            refine wpAnyG_take (i := 11) (v := ?v309) rfl (by kernel_rfl) (fun _ _ _ h => h) (Or.inl ⟨by rfl, ?hy309⟩) (cell_at H27.out.blk 4 _ rfl) ?rest309
            case hy309 => (intro ww _; go_simp; try with_reducible rfl)
            go_simp
            refine wpAnyG_take (i := 12) (v := ?v310) rfl (by kernel_rfl) (fun _ _ _ h => h) (Or.inl ⟨by rfl, ?hy310⟩) (cell_at H27.out.blk 4 _ rfl) ?rest310
            case hy310 => (intro ww _; go_simp; try with_reducible rfl)
            go_simp
            refine wpAnyG_all (rs := [13]) (by kernel_rfl) (by simp) ?_
            intro i hi
            obtain rfl := List.mem_singleton.1 hi
            clear hi
            refine wpOp_d rfl (by rfl) (fun K hK => ?_)
            have c4 := cell_at H27.out.blk 4 _ rfl
            have f4 := free_at H27.out.blk 4
            go_simp
            refine hK _ _ ⟨fun h => absurd (by simp) h, ?_⟩
            clear hK K
            go_simp
            refine wpAnyG_done (by kernel_rfl) ?_ _
            go_simp
            clear c4 f4
            go_wp2
            go_roundw
            case rel =>
              refine ⟨j + 1, .slice ad27 (j + 1) cp27, by have := HJ.out; omega, by go_num, H27.out.setg (one_cellR w27 g 4 _) ((blk_set H27.out.blk 4 _).trans (by simp)), ?_, ?_⟩
              · refine own_stay (w := w27) ?_ (fun k h1 _ => Below.heap_setCell _ _ _ _ (by have := HB2.out; show k ≠ g; omega))
                have := h27.out
                rw [HY.out.1, HY.out.2] at this
                exact this
              · have := HL27.out
                simpa using this
            case measure => simp [intOf]; omega
      · have hj1 : (j : Int) < (N1 : Int) := by omega
        have HJ := hid (And.intro hj hjn)
        clear hj hjn
        obtain ⟨y, ey⟩ : ∃ y, y = rN (oS3 t j).s (oS3 t j).sh 1 := ⟨_, rfl⟩
        have HY := hid ey
        have HO2 : Hid (Opn w wr.drew wc.heap.size g gs gr (oS3 t j) [.int .i64 Z1, .slice ad5 ML.length cp5, v, .int .i64 0, .slice none 0 0, .slice (some ⟨gs, 0, none⟩) 9 9, .slice (some ⟨gr, 0, none⟩) 9 9] (stL lst0) (reL lst0) (blkR ad5 ++ []) (fun u => (IntsIn u ad5 ML ∧ ∀ z, ad5 = some z → z.block < u.heap.size ∧ w.heap.size ≤ z.block) ∧ True)) := hid (HO.out.1.keep (Below.refl _ _).drew)
        have HOw := hid (own_stay (w' := wr.drew) HO.out.2.1 (fun _ _ _ => rfl))
        have HVs : Hid (∃ ad cap, v = .slice ad j cap) := hid (by obtain ⟨ad, cap, h, _⟩ := own_nums HO.out.2.1 (rdL_len _ _ j); exact ⟨ad, cap, h⟩)
        clear ey
        go_wp2
        refine wp_region_G (S := fun ww => ww.cell? ⟨g, 2, none⟩ = some v) (ex := [11]) (by kernel_rfl) ?_
        try (change wpAnyG _ _ _ _ _ _ _ _ _ (World.drew _))
        refine wpAnyG_take (i := 0) (v := ?v101) rfl (by kernel_rfl) (fun _ _ _ h => h) (Or.inl ⟨by rfl, ?hy101⟩) (cell_at HO2.out.blk 2 _ rfl) ?rest101
        case hy101 => (intro ww _; go_simp; try with_reducible rfl)
        go_simp
        refine wpAnyG_take (i := 1) (v := ?v102) rfl (by kernel_rfl) (fun _ _ _ h => h) (Or.inl ⟨by rfl, ?hy102⟩) (cell_at HO2.out.blk 2 _ rfl) ?rest102
        case hy102 => (intro ww _; go_simp; try with_reducible rfl)
        go_simp
        refine wpAnyG_take (i := 2) (v := ?v103) rfl (by kernel_rfl) (fun _ _ _ h => h) (Or.inl ⟨by rfl, ?hy103⟩) (cell_at HO2.out.blk 2 _ rfl) ?rest103
        case hy103 => (intro ww _; go_simp; try with_reducible rfl)
        go_simp
        refine wpAnyG_take (i := 3) (v := ?v104) rfl (by kernel_rfl) (fun _ _ _ h => h) (Or.inl ⟨by rfl, ?hy104⟩) (cell_at HO2.out.blk 2 _ rfl) ?rest104
        case hy104 => (intro ww _; go_simp; try with_reducible rfl)
        go_simp
        refine wpAnyG_take (i := 4) (v := ?v105) rfl (by kernel_rfl) (fun _ _ _ h => h) (Or.inl ⟨by rfl, ?hy105⟩) (cell_at HO2.out.blk 2 _ rfl) ?rest105
        case hy105 => (intro ww _; go_simp; try with_reducible rfl)
        go_simp
        refine wpAnyG_take (i := 5) (v := ?v106) rfl (by kernel_rfl) (fun _ _ _ h => h) (Or.inl ⟨by rfl, ?hy106⟩) (cell_at HO2.out.blk 2 _ rfl) ?rest106
        case hy106 => (intro ww _; go_simp; try with_reducible rfl)
        go_simp
        refine wpAnyG_all (rs := [6]) (by kernel_rfl) (by simp) ?_
        intro i hi
        obtain rfl := List.mem_singleton.1 hi
        clear hi
        refine wpOp_d rfl (by rfl) (fun K hK => ?_)
        go_simp
        refine (opn_num HO2.out 1 1 rfl (by decide) (by decide) y HY.out).mono ?_
        rintro e w8 ⟨rfl, hq, hkp⟩
        have H8 : Hid (Opn w w8 wc.heap.size g gs gr (oS3 t (j + 1)) [.int .i64 Z1, .slice ad5 ML.length cp5, v, .int .i64 0, .slice none 0 0, .slice (some ⟨gs, 0, none⟩) 9 9, .slice (some ⟨gr, 0, none⟩) 9 9] (stL lst0) (reL lst0) (blkR ad5 ++ []) (fun u => (IntsIn u ad5 ML ∧ ∀ z, ad5 = some z → z.block < u.heap.size ∧ w.heap.size ≤ z.block) ∧ True)) := hid hq
        have HK8 : Hid (w8.ownsRow w7.heap.size 3 1 v j (iC (rdL (o3 t).s (o3 t).sh j)) ∧ w7.heap.size ≤ w8.heap.size) := hid ⟨own_stay HOw.out (fun k h1 h2 => hkp.block k h2 (by have := HB1.out; omega) (by simp)), Nat.le_trans HO.out.2.2 hkp.size⟩
        clear hq hkp
        refine hK _ _ ⟨fun _ => (cell_at H8.out.blk 2 _ rfl), ?_⟩
        clear hK K
        go_simp
        refine wpAnyG_all (rs := [7]) (by kernel_rfl) (by simp) ?_
        intro i hi
        obtain rfl := List.mem_singleton.1 hi
        clear hi
        refine wpOp_d rfl (by rfl) (fun K hK => ?_)
        go_simp
        have H9 : Hid (Opn w (w8.alloc (.cells #[.int .i64 (y : Int)] 3)) wc.heap.size g gs gr (oS3 t (j + 1)) [.int .i64 Z1, .slice ad5 ML.length cp5, v, .int .i64 0, .slice none 0 0, .slice (some ⟨gs, 0, none⟩) 9 9, .slice (some ⟨gr, 0, none⟩) 9 9] (stL lst0) (reL lst0) (blkR ad5 ++ []) (fun u => (IntsIn u ad5 ML ∧ ∀ z, ad5 = some z → z.block < u.heap.size ∧ w.heap.size ≤ z.block) ∧ True)) := hid (H8.out.keep ((Below.refl _ _).alloc (Nat.le_refl _) _))
        refine hK _ _ ⟨fun _ => (cell_at H9.out.blk 2 _ rfl), ?_⟩
        clear hK K
        go_simp
        refine wpAnyG_all (rs := [8]) (by kernel_rfl) (by simp) ?_
        intro i hi
        obtain rfl := List.mem_singleton.1 hi
        clear hi
        refine wpOp_d rfl (by rfl) (fun K hK => ?_)
        refine owp_app_I _ _ rfl w7.heap.size v j (rdL (o3 t).s (o3 t).sh j) (by rfl) (HK8.out.1.alloc _) w8.heap.size (y : Int) (by rfl) (by simp) (by have := HK8.out.2; simp; omega) (by have := HJ.out; omega) ?_
        intro v10 w10 h10 g10
        have H10 : Hid (Opn w w10 wc.heap.size g gs gr (oS3 t (j + 1)) [.int .i64 Z1, .slice ad5 ML.length cp5, v, .int .i64 0, .slice none 0 0, .slice (some ⟨gs, 0, none⟩) 9 9, .slice (some ⟨gr, 0, none⟩) 9 9] (stL lst0) (reL lst0) (blkR ad5 ++ []) (fun u => (IntsIn u ad5 ML ∧ ∀ z, ad5 = some z → z.block < u.heap.size ∧ w.heap.size ≤ z.block) ∧ True)) := hid (H9.out.grow g10.out (B := w7.heap.size) (fun k hk => (HK8.out.1.lt k hk).1) HB1.out.1 HB1.out.2.1 HB1.out.2.2)
        have HL10 : Hid (w7.heap.size ≤ w10.heap.size) := hid (by have := g10.out.size; have := HK8.out.2; simp at *; omega)
        obtain ⟨ad10, cp10, hv10, _, _⟩ := own_nums h10.out (by rw [List.length_append, rdL_len]; rfl)
        subst hv10
        clear g10
        refine hK _ _ ⟨fun _ => (cell_at H10.out.blk 2 _ rfl), ?_⟩
        clear hK K
        go_simp
        refine wpAnyG_take (i := 9) (v := ?v107) rfl (by kernel_rfl) (fun _ _ _ h => h) (Or.inl ⟨by rfl, ?hy107⟩) (cell_at H10.out.blk 2 _ rfl) ?rest107
        case hy107 => (intro ww _; go_simp; try with_reducible rfl)
        go_simp
        refine wpAnyG_take (i := 10) (v := ?v108) rfl (by kernel_rfl) (fun _ _ _ h => h) (Or.inl ⟨by rfl, ?hy108⟩) (cell_at H10.out.blk 2 _ rfl) ?rest108
        case hy108 => (intro ww _; go_simp; try with_reducible rfl)
        go_simp
        refine wpAnyG_all (rs := [11]) (by kernel_rfl) (by simp) ?_
        intro i hi
        obtain rfl := List.mem_singleton.1 hi
        clear hi
        refine wpOp_d rfl (by rfl) (fun K hK => ?_)
        have c2 := cell_at H10.out.blk 2 _ rfl
        have f2 := free_at H10.out.blk 2
        go_simp
        refine hK _ _ ⟨fun h => absurd (by simp) h, ?_⟩
        clear hK K
        go_simp
        refine wpAnyG_done (by kernel_rfl) ?_ _
        go_simp
        clear c2 f2
        go_wp2
        go_roundw
        case rel =>
          refine ⟨j + 1, .slice ad10 (j + 1) cp10, by have := HJ.out; omega, by go_num, H10.out.setg (one_cellR w10 g 2 _) ((blk_set H10.out.blk 2 _).trans (by simp)), ?_, ?_⟩
          · refine own_stay (w := w10) ?_ (fun k h1 _ => Below.heap_setCell _ _ _ _ (by have := HB1.out; show k ≠ g; omega))
            have := h10.out
            rw [HY.out] at this
            exact this
          · have := HL10.out
            simpa using this
        case measure => simp [intOf]; omega
end Go.Proofs.YtecidbdbdnnglaaGreat
