/- What follows from a slot's round stays. -/
import Derived.Test.YtohhlolmojeomaaKi1
namespace Go.Proofs.Ytohhlolmojeomaa
open Go.RowKit

theorem One.but {b : Nat} {w w' : World} (h : One b w w') : But b w w' := ⟨h.os, h.tape, h.output, Nat.le_of_eq h.size.symm, fun k _ hk => h.block k hk⟩
/-- A list that lies at B or above. -/
def Fresh (B : Nat) (v : Value) : Prop := ∀ x n k, v = .slice (some x) n k → B ≤ x.block
theorem Fresh.mono {B C : Nat} {v : Value} (h : Fresh B v) (hC : C ≤ B) : Fresh C v := fun x n k e => Nat.le_trans hC (h x n k e)
theorem fresh_ct {w : World} {c : Ct} {a : Option Addr} {k : Nat} (h : ∀ x, a = some x → w.heap.size ≤ x.block) : Fresh w.heap.size (.slice a c.2.2.2.length k) := fun x n k e => by
  cases e; exact h x rfl
theorem same_ct {ps : List Pl} {i : Nat} {p : Pl} (hi : ps[i]? = some p) {v : Value} {B : Nat} (hv : v = p.ct.2) : ∀ p0, ps[i]? = some p0 → v = p0.ct.2 ∨ Fresh B v := fun p0 h0 => by
  rw [hi] at h0; cases h0; exact .inl hv
def SetPost (w w' : World) (N g : Nat) (ep : Int) (am : Option Addr) (cm : Nat) (l : List Int) (v : Int) (ps : List Pl) (i : Nat) (p : Pp) : Prop := ∃ p', LgM w' N g ep am cm l v (ps.set i p') ∧ p'.pp = p ∧ But g w w' ∧ ∀ p0, ps[i]? = some p0 → p'.ct.2 = p0.ct.2 ∨ Fresh w.heap.size p'.ct.2
theorem set_same {α : Type} {ps : List α} {i : Nat} {p : α} (h : ps[i]? = some p) : ps.set i p = ps := by
  obtain ⟨hl, he⟩ := List.getElem?_eq_some_iff.1 h
  rw [← he]; exact List.set_getElem_self hl
theorem set_get {α : Type} {ps : List α} {i : Nat} {p : α} (q : α) (h : ps[i]? = some p) : (ps.set i q)[i]? = some q := by
  obtain ⟨hl, _⟩ := List.getElem?_eq_some_iff.1 h
  simp [hl]
section
variable {o : Oper} {a : Act} {w : World} {K : Act → World → Prop} {Q : Exit → Act → World → Prop} {ops : Array Oper} {rest : List Oper}
theorem wl_storeV (hgd : o.guard = none) (T : TypeId) (p x : Operand) (ho : o.op = .store T p x) (b off : Nat) (hp : a.eval p = .pointer (some ⟨b, off, none⟩)) (u : Value) (hx : a.eval x = u) (hc : u.cells = #[u]) (h1 : u.oneCell' = true) (L : List Value) (TB : TypeId) (hL : w.heap[b]? = some (.cells L.toArray TB (0, 0))) (hn : off < L.length)
    (hi : (Try.prog.info? T).map (·.size) = some 1) (h : ∀ w', Hid (w'.heap[b]? = some (.cells (L.set off u).toArray TB (0, 0)) ∧ One b w w') → wpList Try.prog ops Q rest (a.put o.dst undef) w') : wpList Try.prog ops Q (o :: rest) a w :=
  wpList_plain hgd fun _ hK => owp_storeV T p x ho b off hp u hx hc h1 L TB hL hn hi (fun w' hw => hK _ _ (h w' hw))
end
section
variable {w w2 w3 : World} {N g : Nat} {ep : Int} {am : Option Addr} {cm : Nat} {l : List Int} {v : Int} {ps : List Pl}
theorem LgM.putct (h : LgM w2 N g ep am cm l v ps) {i : Nat} {p : Pl} (hi : ps[i]? = some p) (c : Ct) (a : Option Addr) (k : Nat) (hp : PairsIn w2 a c.2.2.2) (hN : ∀ x, a = some x → N ≤ x.block) (Hz : w3.heap[g]? = some (.cells (setAt (lgC ep (.slice am l.length cm) v ps) (3 + i * 43 + 33) (ctC c (.slice a c.2.2.2.length k))).toArray 81 (0, 0)) ∧ One g w2 w3) : LgM w3 N g ep am cm l v (ps.set i { p with ct := (c, .slice a c.2.2.2.length k) }) ∧ But g w2 w3 := by
  have hok := h.at_.ok p (List.mem_of_getElem? hi)
  refine ⟨h.put i p _ 33 _ hi (by simp [ctC]) (plC_setct hok _ _) ⟨hok.pre, hok.com⟩ Hz.2.but Hz.1 ?_, Hz.2.but⟩
  have : CtLie w2 N { p with ct := (c, .slice a c.2.2.2.length k) } := ⟨a, k, rfl, hp, hN⟩
  exact this.but Hz.2.but h.lt
theorem LgM.putdon (h : LgM w2 N g ep am cm l v ps) {i : Nat} {p : Pl} (hi : ps[i]? = some p) (t : ByteArray) (Hz : w3.heap[g]? = some (.cells ((lgC ep (.slice am l.length cm) v ps).set (3 + i * 43 + 42) (.string t)).toArray 81 (0, 0)) ∧ One g w2 w3) : LgM w3 N g ep am cm l v (ps.set i { p with don := t }) ∧ But g w2 w3 := by
  have hok := h.at_.ok p (List.mem_of_getElem? hi)
  obtain ⟨a, k, h1, h2, h3⟩ := (h.rd p (List.mem_of_getElem? hi)).but Hz.2.but h.lt
  exact ⟨h.put i p _ 42 [.string t] hi (by simp) (plC_setdon hok t) ⟨hok.pre, hok.com⟩ Hz.2.but Hz.1 ⟨a, k, h1, h2, h3⟩, Hz.2.but⟩
end
theorem don_of {w : World} {g : Nat} {ep : Int} {am : Option Addr} {cm : Nat} {l : List Int} {v : Int} {ps : List Pl} (h : SlA w g ep am cm l v ps) {i : Nat} {p : Pl} (hi : ps[i]? = some p) : w.cell? ⟨g, 3 + i * 43 + 42, none⟩ = some (.string p.don) := h.at i p 42 _ hi (by omega) (plC_don (h.ok p (List.mem_of_getElem? hi)))
theorem toList_nil {b : ByteArray} (h : b.size = 0) : b.toList.isEmpty = true := by
  rw [ByteArray.toList_eq]; exact List.isEmpty_iff.2 (List.eq_nil_of_length_eq_zero (by simpa using h))
theorem toList_cons {b : ByteArray} (h : b.size ≠ 0) : b.toList.isEmpty = false := by
  rw [ByteArray.toList_eq]
  cases e : b.data.toList.isEmpty with
  | false => rfl
  | true => rw [List.isEmpty_iff] at e; exact absurd (by have := congrArg List.length e; simpa using this) h
set_option maxRecDepth 100000 in
set_option maxHeartbeats 3200000 in
theorem ssettle_no (N g : Nat) (ep : Int) (am : Option Addr) (cm : Nat) (l : List Int) (v : Int) (ps : List Pl) (i : Nat) (p : Pl) (w : World) (h : LgM w N g ep am cm l v ps) (hl : 0 < l.length) (hlm : l.length ≤ 1000) (he : 0 ≤ ep ∧ ep ≤ 60) (_hv : 0 ≤ v ∧ v ≤ 15) (hi : ps[i]? = some p) (_hsz : p.pro.size ≤ 64) (hp : isPrep l.length p.pp = false) :
    Calls Try.prog 48 #[.pointer (some ⟨g, 0, none⟩), .int .i64 (4 * ep + 1 + (i : Int))] w fun e w' => e = .returned (.tuple #[]) ∧ SetPost w w' N g ep am cm l v ps i p.pp := by
  have hi4 : i < 4 := by have := (List.getElem?_eq_some_iff.1 hi).1; rw [h.at_.four] at this; exact this
  have HP := hid (sprep_any g ep am cm l v ps i p w h.at_ hl hlm he hi)
  rw [hp] at HP
  have HL := hid h
  have HI := hid hi
  generalize 4 * ep + 1 + (i : Int) = s at HP ⊢
  clear h hl hlm he _hv hi _hsz hp hi4
  go_enter Try.func48, Try.ntmps48
  go_wp2_with (first | (go_at_call 29; go_must (refine HP.out.mono ?_); rintro e w1 ⟨rfl, hb1⟩; have H1 : Hid (LgM w1 N g ep am cm l v ps ∧ Below w.heap.size w w1) := hid ⟨HL.out.keep hb1, hb1⟩; clear hb1))
  first | go_end0 | refine bodyPost_ret (results_none rfl _ _ _) rfl ?_
  exact ⟨rfl, p, by rw [set_same HI.out]; exact H1.out.1, rfl, But.of H1.out.2, same_ct HI.out rfl⟩
set_option maxRecDepth 100000 in
set_option maxHeartbeats 3200000 in
theorem ssettle_keep_don (N g : Nat) (ep : Int) (am : Option Addr) (cm : Nat) (l : List Int) (v : Int) (ps : List Pl) (i : Nat) (p : Pl) (w : World) (h : LgM w N g ep am cm l v ps) (hl : 0 < l.length) (hlm : l.length ≤ 1000) (he : 0 ≤ ep ∧ ep ≤ 60) (_hv : 0 ≤ v ∧ v ≤ 15) (hi : ps[i]? = some p) (_hsz : p.pro.size ≤ 64) (hp : isPrep l.length p.pp = true) (hc : p.ct.1.2.2.2.length ≠ 0) (hw : p.ct.1.1 = v) (hd : p.don.size ≠ 0) :
    Calls Try.prog 48 #[.pointer (some ⟨g, 0, none⟩), .int .i64 (4 * ep + 1 + (i : Int))] w fun e w' => e = .returned (.tuple #[]) ∧ SetPost w w' N g ep am cm l v ps i { p.pp with ct := p.ct.1, don := p.don } := by
  have hi4 : i < 4 := by have := (List.getElem?_eq_some_iff.1 hi).1; rw [h.at_.four] at this; exact this
  have HP := hid (sprep_any g ep am cm l v ps i p w h.at_ hl hlm he hi)
  rw [hp] at HP
  have HA : Hid (∀ (u : World) (qs : List Pl), SlA u g ep am cm l v qs → Calls Try.prog 42 #[.pointer (some ⟨g, 0, none⟩), .int .i64 (4 * ep + 1 + (i : Int))] u fun e w' => e = .returned (.pointer (some ⟨g, 3 + i * 43, none⟩)) ∧ w' = u) := hid (fun u qs hu => sat_yes g ep am cm l v qs i u hu hl he hi4)
  have HQ : Hid (∀ (u : World) (qs : List Pl), SlA u g ep am cm l v qs → Calls Try.prog 52 #[.pointer (some ⟨g, 0, none⟩), .agg (sC p.com).toArray, .string p.pro] u fun e w' => e = .returned (.bool (quoOk l.length p.com p.pro)) ∧ Below u.heap.size u w') := hid (fun u qs hu => squo_any g ep am cm l v qs p.com (h.at_.ok p (List.mem_of_getElem? hi)).com p.pro u hu hlm)
  have HLs : Hid ((sC p.com).length = 16) := hid (by rw [sC_len]; exact (h.at_.ok p (List.mem_of_getElem? hi)).com)
  have HL := hid h
  have HSz : Hid (N ≤ w.heap.size) := hid h.sz
  have HI := hid hi
  have HSl : Hid ((lgC ep (.slice am l.length cm) v ps).length = 175 ∧ i < 4) := hid ⟨by rw [lgC]; simp [flat_len43 h.at_.ok, h.at_.four], hi4⟩
  obtain ⟨ac, kc, ecv, _, _⟩ := h.rd p (List.mem_of_getElem? hi)
  have HZ : Hid (∀ u, LgM u N g ep am cm l v ps → u.cell? ⟨g, 3 + i * 43 + 33, none⟩ = some (.int .i64 p.ct.1.1) ∧ u.cell? ⟨g, 3 + i * 43 + 33 + 8, none⟩ = some (.slice ac p.ct.1.2.2.2.length kc) ∧ u.cell? ⟨g, 3 + i * 43 + 41, none⟩ = some (.slice ac p.ct.1.2.2.2.length kc)) := hid (fun u hu => by
    have hok := hu.at_.ok p (List.mem_of_getElem? hi)
    have e8 := hu.at_.at i p (33 + 8) _ hi (by omega) (plC_ct hok 8 _ (by rw [ecv]; rfl))
    exact ⟨hu.at_.at i p 33 _ hi (by omega) (plC_ct hok 0 _ rfl), by rw [Nat.add_assoc (3 + i * 43)]; exact e8, e8⟩)
  have hn0 : ((p.ct.1.2.2.2.length : Int) == 0) = false := beq_eq_false_iff_ne.2 (by omega)
  have hn1 : (p.ct.1.2.2.2.length == 0) = false := beq_eq_false_iff_ne.2 hc
  have hv1 : (p.ct.1.1 != v) = false := by rw [hw]; simp
  have hv2 : (p.ct.1.1 == v) = true := by rw [hw]; simp
  have hds : p.don.toList.isEmpty = false := toList_cons hd
  generalize hcl : p.ct.1.2.2.2.length = CL at HZ hn0 hn1
  generalize p.ct.1.1 = CV at HZ hv1 hv2
  generalize 4 * ep + 1 + (i : Int) = s at HP HA ⊢
  clear h hl hlm he _hv hi _hsz hp hi4 hc hw hd ecv hcl
  go_enter Try.func48, Try.ntmps48
  go_wp2_with (first
    | (go_at_call 29; go_must (refine HP.out.mono ?_); rintro e w1 ⟨rfl, hb1⟩; have H1 : Hid (LgM w1 N g ep am cm l v ps ∧ Below w.heap.size w w1) := hid ⟨HL.out.keep hb1, hb1⟩; clear hb1)
    | (go_at_call 42; go_must (refine (HA.out _ _ H1.out.1.at_).mono ?_); rintro e wq ⟨rfl, hwq⟩; replace hwq := hwq.symm; subst hwq))
  obtain ⟨wd, ed⟩ : ∃ u, u = w1.drew := ⟨_, rfl⟩
  have HD : Hid (LgM wd N g ep am cm l v ps ∧ Below w.heap.size w wd) := hid (by rw [ed]; exact ⟨H1.out.1.keep (Below.refl _ _).drew, H1.out.2.drew⟩)
  have HS : Hid (LgM wd N g ep am cm l v ps) := hid HD.out.1
  refine wp_region_G (S := fun ww => LgM ww N g ep am cm l v ps) (ex := []) (by kernel_rfl) ?_
  try (change wpAnyG _ _ _ _ _ _ _ _ _ (World.drew _))
  try rw [← ed]
  clear ed
  refine wpAnyG_take (i := 0) (v := ?v401) rfl (by kernel_rfl) (fun _ _ _ h => h) (Or.inl ⟨by rfl, ?hy401⟩) HS.out ?rest401
  case hy401 => (intro ww _; go_simp; try with_reducible rfl)
  go_simp
  refine wpAnyG_take (i := 1) (v := ?v402) rfl (by kernel_rfl) (fun _ _ _ h => h) (Or.inl ⟨by rfl, ?hy402⟩) HS.out ?rest402
  case hy402 => (intro ww _; go_simp; try with_reducible rfl)
  go_simp
  refine wpAnyG_take (i := 2) (v := ?v403) rfl (by kernel_rfl) (fun _ _ _ h => h) (Or.inl ⟨by rfl, ?hy403⟩) HS.out ?rest403
  case hy403 => (intro ww _; go_simp; try with_reducible rfl)
  go_simp
  refine wpAnyG_take (i := 3) (v := ?v404) rfl (by kernel_rfl) (fun _ _ _ h => h) (Or.inl ⟨by rfl, ?hy404⟩) HS.out ?rest404
  case hy404 => (intro ww _; go_simp; try with_reducible rfl)
  go_simp
  refine wpAnyG_take (i := 4) (v := ?v405) rfl (by kernel_rfl) (fun _ _ _ h => h) (Or.inl ⟨by rfl, ?hy405⟩) HS.out ?rest405
  case hy405 => (intro ww hS; obtain ⟨z0, z8, z9⟩ := HZ.out _ hS; have zv := hS.at_.c2; go_simp; try with_reducible rfl)
  go_simp
  refine wpAnyG_take (i := 5) (v := ?v406) rfl (by kernel_rfl) (fun _ _ _ h => h) (Or.inl ⟨by rfl, ?hy406⟩) HS.out ?rest406
  case hy406 => (intro ww _; go_simp; try with_reducible rfl)
  go_simp
  refine wpAnyG_take (i := 6) (v := ?v407) rfl (by kernel_rfl) (fun _ _ _ h => h) (Or.inl ⟨by rfl, ?hy407⟩) HS.out ?rest407
  case hy407 => (intro ww _; go_simp; try with_reducible rfl)
  go_simp
  refine wpAnyG_take (i := 7) (v := ?v408) rfl (by kernel_rfl) (fun _ _ _ h => h) (Or.inl ⟨by rfl, ?hy408⟩) HS.out ?rest408
  case hy408 => (intro ww _; go_simp; try with_reducible rfl)
  go_simp
  refine wpAnyG_take (i := 8) (v := ?v409) rfl (by kernel_rfl) (fun _ _ _ h => h) (Or.inl ⟨by rfl, ?hy409⟩) HS.out ?rest409
  case hy409 => (intro ww _; go_simp; try with_reducible rfl)
  go_simp
  refine wpAnyG_take (i := 9) (v := ?v410) rfl (by kernel_rfl) (fun _ _ _ h => h) (Or.inl ⟨by rfl, ?hy410⟩) HS.out ?rest410
  case hy410 => (intro ww _; go_simp; try with_reducible rfl)
  go_simp
  refine wpAnyG_take (i := 10) (v := ?v411) rfl (by kernel_rfl) (fun _ _ _ h => h) (Or.inl ⟨by rfl, ?hy411⟩) HS.out ?rest411
  case hy411 => (intro ww _; go_simp; try with_reducible rfl)
  go_simp
  refine wpAnyG_take (i := 11) (v := ?v412) rfl (by kernel_rfl) (fun _ _ _ h => h) (Or.inl ⟨by rfl, ?hy412⟩) HS.out ?rest412
  case hy412 => (intro ww _; go_simp; try with_reducible rfl)
  go_simp
  refine wpAnyG_take (i := 12) (v := ?v413) rfl (by kernel_rfl) (fun _ _ _ h => h) (Or.inl ⟨by rfl, ?hy413⟩) HS.out ?rest413
  case hy413 => (intro ww hS; obtain ⟨z0, z8, z9⟩ := HZ.out _ hS; have zv := hS.at_.c2; go_simp; try with_reducible rfl)
  go_simp
  refine wpAnyG_take (i := 13) (v := ?v414) rfl (by kernel_rfl) (fun _ _ _ h => h) (Or.inl ⟨by rfl, ?hy414⟩) HS.out ?rest414
  case hy414 => (intro ww _; go_simp; try with_reducible rfl)
  go_simp
  refine wpAnyG_take (i := 14) (v := ?v415) rfl (by kernel_rfl) (fun _ _ _ h => h) (Or.inl ⟨by rfl, ?hy415⟩) HS.out ?rest415
  case hy415 => (intro ww _; go_simp; try with_reducible rfl)
  go_simp
  refine wpAnyG_take (i := 15) (v := ?v416) rfl (by kernel_rfl) (fun _ _ _ h => h) (Or.inl ⟨by rfl, ?hy416⟩) HS.out ?rest416
  case hy416 => (intro ww _; go_simp; try with_reducible rfl)
  go_simp
  refine wpAnyG_take (i := 16) (v := ?v417) rfl (by kernel_rfl) (fun _ _ _ h => h) (Or.inl ⟨by rfl, ?hy417⟩) HS.out ?rest417
  case hy417 => (intro ww hS; obtain ⟨z0, z8, z9⟩ := HZ.out _ hS; have zv := hS.at_.c2; go_simp; try with_reducible rfl)
  go_simp
  refine wpAnyG_take (i := 17) (v := ?v418) rfl (by kernel_rfl) (fun _ _ _ h => h) (Or.inl ⟨by rfl, ?hy418⟩) HS.out ?rest418
  case hy418 => (intro ww _; go_simp; try with_reducible rfl)
  go_simp
  refine wpAnyG_take (i := 18) (v := ?v419) rfl (by kernel_rfl) (fun _ _ _ h => h) (Or.inl ⟨by rfl, ?hy419⟩) HS.out ?rest419
  case hy419 => (intro ww _; go_simp; try with_reducible rfl)
  go_simp
  refine wpAnyG_done (by kernel_rfl) ?_ _
  go_simp
  clear HS
  go_wp2
  have H3 : Hid (LgM wd N g ep am cm l v ps ∧ But g w wd) := hid ⟨HD.out.1, But.of HD.out.2⟩
  have HI3 : Hid (ps[i]? = some p) := HI
  have HS : Hid (SlA wd.drew g ep am cm l v ps) := hid (H3.out.1.at_.keep (Below.refl _ _).drew)
  refine wp_region_G (S := fun ww => SlA ww g ep am cm l v ps) (ex := []) (by kernel_rfl) ?_
  try (change wpAnyG _ _ _ _ _ _ _ _ _ (World.drew _))
  refine wpAnyG_take (i := 0) (v := ?v1) rfl (by kernel_rfl) (fun _ _ _ h => h) (Or.inl ⟨by rfl, ?hy1⟩) HS.out ?rest1
  case hy1 => (intro ww _; go_simp; try with_reducible rfl)
  go_simp
  refine wpAnyG_take (i := 1) (v := ?v2) rfl (by kernel_rfl) (fun _ _ _ h => h) (Or.inl ⟨by rfl, ?hy2⟩) HS.out ?rest2
  case hy2 => (intro ww _; go_simp; try with_reducible rfl)
  go_simp
  refine wpAnyG_take (i := 2) (v := ?v3) rfl (by kernel_rfl) (fun _ _ _ h => h) (Or.inl ⟨by rfl, ?hy3⟩) HS.out ?rest3
  case hy3 => (intro ww _; go_simp; try with_reducible rfl)
  go_simp
  refine wpAnyG_take (i := 3) (v := ?v4) rfl (by kernel_rfl) (fun _ _ _ h => h) (Or.inl ⟨by rfl, ?hy4⟩) HS.out ?rest4
  case hy4 => (intro ww hS; have y9 := don_of hS HI3.out; go_simp; try with_reducible rfl)
  go_simp
  refine wpAnyG_take (i := 4) (v := ?v5) rfl (by kernel_rfl) (fun _ _ _ h => h) (Or.inl ⟨by rfl, ?hy5⟩) HS.out ?rest5
  case hy5 => (intro ww _; go_simp; try with_reducible rfl)
  go_simp
  refine wpAnyG_take (i := 5) (v := ?v6) rfl (by kernel_rfl) (fun _ _ _ h => h) (Or.inl ⟨by rfl, ?hy6⟩) HS.out ?rest6
  case hy6 => (intro ww _; go_simp; try with_reducible rfl)
  go_simp
  refine wpAnyG_take (i := 6) (v := undef) rfl (by kernel_rfl) (fun _ _ _ h => h) (Or.inr ⟨by rfl, rfl⟩) HS.out ?rest7
  go_simp
  refine wpAnyG_take (i := 7) (v := undef) rfl (by kernel_rfl) (fun _ _ _ h => h) (Or.inr ⟨by rfl, rfl⟩) HS.out ?rest8
  go_simp
  refine wpAnyG_take (i := 8) (v := undef) rfl (by kernel_rfl) (fun _ _ _ h => h) (Or.inr ⟨by rfl, rfl⟩) HS.out ?rest9
  go_simp
  refine wpAnyG_take (i := 9) (v := undef) rfl (by kernel_rfl) (fun _ _ _ h => h) (Or.inr ⟨by rfl, rfl⟩) HS.out ?rest10
  go_simp
  refine wpAnyG_take (i := 10) (v := undef) rfl (by kernel_rfl) (fun _ _ _ h => h) (Or.inr ⟨by rfl, rfl⟩) HS.out ?rest11
  go_simp
  refine wpAnyG_take (i := 11) (v := undef) rfl (by kernel_rfl) (fun _ _ _ h => h) (Or.inr ⟨by rfl, rfl⟩) HS.out ?rest12
  go_simp
  refine wpAnyG_take (i := 12) (v := undef) rfl (by kernel_rfl) (fun _ _ _ h => h) (Or.inr ⟨by rfl, rfl⟩) HS.out ?rest13
  go_simp
  refine wpAnyG_take (i := 13) (v := undef) rfl (by kernel_rfl) (fun _ _ _ h => h) (Or.inr ⟨by rfl, rfl⟩) HS.out ?rest14
  go_simp
  refine wpAnyG_take (i := 14) (v := undef) rfl (by kernel_rfl) (fun _ _ _ h => h) (Or.inr ⟨by rfl, rfl⟩) HS.out ?rest15
  go_simp
  refine wpAnyG_take (i := 15) (v := undef) rfl (by kernel_rfl) (fun _ _ _ h => h) (Or.inr ⟨by rfl, rfl⟩) HS.out ?rest16
  go_simp
  refine wpAnyG_take (i := 16) (v := undef) rfl (by kernel_rfl) (fun _ _ _ h => h) (Or.inr ⟨by rfl, rfl⟩) HS.out ?rest17
  go_simp
  refine wpAnyG_take (i := 17) (v := undef) rfl (by kernel_rfl) (fun _ _ _ h => h) (Or.inr ⟨by rfl, rfl⟩) HS.out ?rest18
  go_simp
  refine wpAnyG_take (i := 18) (v := ?v19) rfl (by kernel_rfl) (fun _ _ _ h => h) (Or.inl ⟨by rfl, ?hy19⟩) HS.out ?rest19
  case hy19 => (intro ww _; go_simp; try with_reducible rfl)
  go_simp
  refine wpAnyG_done (by kernel_rfl) ?_ _
  go_simp
  go_wp2
  first | go_end0 | refine bodyPost_ret (results_none rfl _ _ _) rfl ?_
  exact ⟨rfl, p, by rw [set_same HI.out]; exact H3.out.1.keep (Below.refl _ _).drew, rfl, H3.out.2.trans (But.of (Below.refl _ _).drew), same_ct HI.out rfl⟩
set_option maxRecDepth 100000 in
set_option maxHeartbeats 3200000 in
theorem ssettle_keep_quo (N g : Nat) (ep : Int) (am : Option Addr) (cm : Nat) (l : List Int) (v : Int) (ps : List Pl) (i : Nat) (p : Pl) (w : World) (h : LgM w N g ep am cm l v ps) (hl : 0 < l.length) (hlm : l.length ≤ 1000) (he : 0 ≤ ep ∧ ep ≤ 60) (_hv : 0 ≤ v ∧ v ≤ 15) (hi : ps[i]? = some p) (_hsz : p.pro.size ≤ 64) (hp : isPrep l.length p.pp = true) (hc : p.ct.1.2.2.2.length ≠ 0) (hw : p.ct.1.1 = v) (hd : p.don.size = 0) (hq : quoOk l.length p.com p.pro = true) :
    Calls Try.prog 48 #[.pointer (some ⟨g, 0, none⟩), .int .i64 (4 * ep + 1 + (i : Int))] w fun e w' => e = .returned (.tuple #[]) ∧ SetPost w w' N g ep am cm l v ps i { p.pp with ct := p.ct.1, don := p.pro } := by
  have hi4 : i < 4 := by have := (List.getElem?_eq_some_iff.1 hi).1; rw [h.at_.four] at this; exact this
  have HP := hid (sprep_any g ep am cm l v ps i p w h.at_ hl hlm he hi)
  rw [hp] at HP
  have HA : Hid (∀ (u : World) (qs : List Pl), SlA u g ep am cm l v qs → Calls Try.prog 42 #[.pointer (some ⟨g, 0, none⟩), .int .i64 (4 * ep + 1 + (i : Int))] u fun e w' => e = .returned (.pointer (some ⟨g, 3 + i * 43, none⟩)) ∧ w' = u) := hid (fun u qs hu => sat_yes g ep am cm l v qs i u hu hl he hi4)
  have HQ : Hid (∀ (u : World) (qs : List Pl), SlA u g ep am cm l v qs → Calls Try.prog 52 #[.pointer (some ⟨g, 0, none⟩), .agg (sC p.com).toArray, .string p.pro] u fun e w' => e = .returned (.bool (quoOk l.length p.com p.pro)) ∧ Below u.heap.size u w') := hid (fun u qs hu => squo_any g ep am cm l v qs p.com (h.at_.ok p (List.mem_of_getElem? hi)).com p.pro u hu hlm)
  rw [hq] at HQ
  have HLs : Hid ((sC p.com).length = 16) := hid (by rw [sC_len]; exact (h.at_.ok p (List.mem_of_getElem? hi)).com)
  have HL := hid h
  have HSz : Hid (N ≤ w.heap.size) := hid h.sz
  have HI := hid hi
  have HSl : Hid ((lgC ep (.slice am l.length cm) v ps).length = 175 ∧ i < 4) := hid ⟨by rw [lgC]; simp [flat_len43 h.at_.ok, h.at_.four], hi4⟩
  obtain ⟨ac, kc, ecv, _, _⟩ := h.rd p (List.mem_of_getElem? hi)
  have HZ : Hid (∀ u, LgM u N g ep am cm l v ps → u.cell? ⟨g, 3 + i * 43 + 33, none⟩ = some (.int .i64 p.ct.1.1) ∧ u.cell? ⟨g, 3 + i * 43 + 33 + 8, none⟩ = some (.slice ac p.ct.1.2.2.2.length kc) ∧ u.cell? ⟨g, 3 + i * 43 + 41, none⟩ = some (.slice ac p.ct.1.2.2.2.length kc)) := hid (fun u hu => by
    have hok := hu.at_.ok p (List.mem_of_getElem? hi)
    have e8 := hu.at_.at i p (33 + 8) _ hi (by omega) (plC_ct hok 8 _ (by rw [ecv]; rfl))
    exact ⟨hu.at_.at i p 33 _ hi (by omega) (plC_ct hok 0 _ rfl), by rw [Nat.add_assoc (3 + i * 43)]; exact e8, e8⟩)
  have hn0 : ((p.ct.1.2.2.2.length : Int) == 0) = false := beq_eq_false_iff_ne.2 (by omega)
  have hn1 : (p.ct.1.2.2.2.length == 0) = false := beq_eq_false_iff_ne.2 hc
  have hv1 : (p.ct.1.1 != v) = false := by rw [hw]; simp
  have hv2 : (p.ct.1.1 == v) = true := by rw [hw]; simp
  have hds : p.don.toList.isEmpty = true := toList_nil hd
  generalize hcl : p.ct.1.2.2.2.length = CL at HZ hn0 hn1
  generalize p.ct.1.1 = CV at HZ hv1 hv2
  generalize 4 * ep + 1 + (i : Int) = s at HP HA ⊢
  clear h hl hlm he _hv hi _hsz hp hi4 hc hw hd hq ecv hcl
  go_enter Try.func48, Try.ntmps48
  go_wp2_with (first
    | (go_at_call 29; go_must (refine HP.out.mono ?_); rintro e w1 ⟨rfl, hb1⟩; have H1 : Hid (LgM w1 N g ep am cm l v ps ∧ Below w.heap.size w w1) := hid ⟨HL.out.keep hb1, hb1⟩; clear hb1)
    | (go_at_call 42; go_must (refine (HA.out _ _ H1.out.1.at_).mono ?_); rintro e wq ⟨rfl, hwq⟩; replace hwq := hwq.symm; subst hwq))
  obtain ⟨wd, ed⟩ : ∃ u, u = w1.drew := ⟨_, rfl⟩
  have HD : Hid (LgM wd N g ep am cm l v ps ∧ Below w.heap.size w wd) := hid (by rw [ed]; exact ⟨H1.out.1.keep (Below.refl _ _).drew, H1.out.2.drew⟩)
  have HS : Hid (LgM wd N g ep am cm l v ps) := hid HD.out.1
  refine wp_region_G (S := fun ww => LgM ww N g ep am cm l v ps) (ex := []) (by kernel_rfl) ?_
  try (change wpAnyG _ _ _ _ _ _ _ _ _ (World.drew _))
  try rw [← ed]
  clear ed
  refine wpAnyG_take (i := 0) (v := ?v401) rfl (by kernel_rfl) (fun _ _ _ h => h) (Or.inl ⟨by rfl, ?hy401⟩) HS.out ?rest401
  case hy401 => (intro ww _; go_simp; try with_reducible rfl)
  go_simp
  refine wpAnyG_take (i := 1) (v := ?v402) rfl (by kernel_rfl) (fun _ _ _ h => h) (Or.inl ⟨by rfl, ?hy402⟩) HS.out ?rest402
  case hy402 => (intro ww _; go_simp; try with_reducible rfl)
  go_simp
  refine wpAnyG_take (i := 2) (v := ?v403) rfl (by kernel_rfl) (fun _ _ _ h => h) (Or.inl ⟨by rfl, ?hy403⟩) HS.out ?rest403
  case hy403 => (intro ww _; go_simp; try with_reducible rfl)
  go_simp
  refine wpAnyG_take (i := 3) (v := ?v404) rfl (by kernel_rfl) (fun _ _ _ h => h) (Or.inl ⟨by rfl, ?hy404⟩) HS.out ?rest404
  case hy404 => (intro ww _; go_simp; try with_reducible rfl)
  go_simp
  refine wpAnyG_take (i := 4) (v := ?v405) rfl (by kernel_rfl) (fun _ _ _ h => h) (Or.inl ⟨by rfl, ?hy405⟩) HS.out ?rest405
  case hy405 => (intro ww hS; obtain ⟨z0, z8, z9⟩ := HZ.out _ hS; have zv := hS.at_.c2; go_simp; try with_reducible rfl)
  go_simp
  refine wpAnyG_take (i := 5) (v := ?v406) rfl (by kernel_rfl) (fun _ _ _ h => h) (Or.inl ⟨by rfl, ?hy406⟩) HS.out ?rest406
  case hy406 => (intro ww _; go_simp; try with_reducible rfl)
  go_simp
  refine wpAnyG_take (i := 6) (v := ?v407) rfl (by kernel_rfl) (fun _ _ _ h => h) (Or.inl ⟨by rfl, ?hy407⟩) HS.out ?rest407
  case hy407 => (intro ww _; go_simp; try with_reducible rfl)
  go_simp
  refine wpAnyG_take (i := 7) (v := ?v408) rfl (by kernel_rfl) (fun _ _ _ h => h) (Or.inl ⟨by rfl, ?hy408⟩) HS.out ?rest408
  case hy408 => (intro ww _; go_simp; try with_reducible rfl)
  go_simp
  refine wpAnyG_take (i := 8) (v := ?v409) rfl (by kernel_rfl) (fun _ _ _ h => h) (Or.inl ⟨by rfl, ?hy409⟩) HS.out ?rest409
  case hy409 => (intro ww _; go_simp; try with_reducible rfl)
  go_simp
  refine wpAnyG_take (i := 9) (v := ?v410) rfl (by kernel_rfl) (fun _ _ _ h => h) (Or.inl ⟨by rfl, ?hy410⟩) HS.out ?rest410
  case hy410 => (intro ww _; go_simp; try with_reducible rfl)
  go_simp
  refine wpAnyG_take (i := 10) (v := ?v411) rfl (by kernel_rfl) (fun _ _ _ h => h) (Or.inl ⟨by rfl, ?hy411⟩) HS.out ?rest411
  case hy411 => (intro ww _; go_simp; try with_reducible rfl)
  go_simp
  refine wpAnyG_take (i := 11) (v := ?v412) rfl (by kernel_rfl) (fun _ _ _ h => h) (Or.inl ⟨by rfl, ?hy412⟩) HS.out ?rest412
  case hy412 => (intro ww _; go_simp; try with_reducible rfl)
  go_simp
  refine wpAnyG_take (i := 12) (v := ?v413) rfl (by kernel_rfl) (fun _ _ _ h => h) (Or.inl ⟨by rfl, ?hy413⟩) HS.out ?rest413
  case hy413 => (intro ww hS; obtain ⟨z0, z8, z9⟩ := HZ.out _ hS; have zv := hS.at_.c2; go_simp; try with_reducible rfl)
  go_simp
  refine wpAnyG_take (i := 13) (v := ?v414) rfl (by kernel_rfl) (fun _ _ _ h => h) (Or.inl ⟨by rfl, ?hy414⟩) HS.out ?rest414
  case hy414 => (intro ww _; go_simp; try with_reducible rfl)
  go_simp
  refine wpAnyG_take (i := 14) (v := ?v415) rfl (by kernel_rfl) (fun _ _ _ h => h) (Or.inl ⟨by rfl, ?hy415⟩) HS.out ?rest415
  case hy415 => (intro ww _; go_simp; try with_reducible rfl)
  go_simp
  refine wpAnyG_take (i := 15) (v := ?v416) rfl (by kernel_rfl) (fun _ _ _ h => h) (Or.inl ⟨by rfl, ?hy416⟩) HS.out ?rest416
  case hy416 => (intro ww _; go_simp; try with_reducible rfl)
  go_simp
  refine wpAnyG_take (i := 16) (v := ?v417) rfl (by kernel_rfl) (fun _ _ _ h => h) (Or.inl ⟨by rfl, ?hy417⟩) HS.out ?rest417
  case hy417 => (intro ww hS; obtain ⟨z0, z8, z9⟩ := HZ.out _ hS; have zv := hS.at_.c2; go_simp; try with_reducible rfl)
  go_simp
  refine wpAnyG_take (i := 17) (v := ?v418) rfl (by kernel_rfl) (fun _ _ _ h => h) (Or.inl ⟨by rfl, ?hy418⟩) HS.out ?rest418
  case hy418 => (intro ww _; go_simp; try with_reducible rfl)
  go_simp
  refine wpAnyG_take (i := 18) (v := ?v419) rfl (by kernel_rfl) (fun _ _ _ h => h) (Or.inl ⟨by rfl, ?hy419⟩) HS.out ?rest419
  case hy419 => (intro ww _; go_simp; try with_reducible rfl)
  go_simp
  refine wpAnyG_done (by kernel_rfl) ?_ _
  go_simp
  clear HS
  go_wp2
  have H3 : Hid (LgM wd N g ep am cm l v ps ∧ But g w wd) := hid ⟨HD.out.1, But.of HD.out.2⟩
  have HI3 : Hid (ps[i]? = some p) := HI
  have HS : Hid (SlA wd.drew g ep am cm l v ps) := hid (H3.out.1.at_.keep (Below.refl _ _).drew)
  refine wp_region_G (S := fun ww => SlA ww g ep am cm l v ps) (ex := []) (by kernel_rfl) ?_
  try (change wpAnyG _ _ _ _ _ _ _ _ _ (World.drew _))
  refine wpAnyG_take (i := 0) (v := ?v1) rfl (by kernel_rfl) (fun _ _ _ h => h) (Or.inl ⟨by rfl, ?hy1⟩) HS.out ?rest1
  case hy1 => (intro ww _; go_simp; try with_reducible rfl)
  go_simp
  refine wpAnyG_take (i := 1) (v := ?v2) rfl (by kernel_rfl) (fun _ _ _ h => h) (Or.inl ⟨by rfl, ?hy2⟩) HS.out ?rest2
  case hy2 => (intro ww _; go_simp; try with_reducible rfl)
  go_simp
  refine wpAnyG_take (i := 2) (v := ?v3) rfl (by kernel_rfl) (fun _ _ _ h => h) (Or.inl ⟨by rfl, ?hy3⟩) HS.out ?rest3
  case hy3 => (intro ww _; go_simp; try with_reducible rfl)
  go_simp
  refine wpAnyG_take (i := 3) (v := ?v4) rfl (by kernel_rfl) (fun _ _ _ h => h) (Or.inl ⟨by rfl, ?hy4⟩) HS.out ?rest4
  case hy4 => (intro ww hS; have y9 := don_of hS HI3.out; go_simp; try with_reducible rfl)
  go_simp
  refine wpAnyG_take (i := 4) (v := ?v5) rfl (by kernel_rfl) (fun _ _ _ h => h) (Or.inl ⟨by rfl, ?hy5⟩) HS.out ?rest5
  case hy5 => (intro ww _; go_simp; try with_reducible rfl)
  go_simp
  refine wpAnyG_take (i := 5) (v := ?v6) rfl (by kernel_rfl) (fun _ _ _ h => h) (Or.inl ⟨by rfl, ?hy6⟩) HS.out ?rest6
  case hy6 => (intro ww _; go_simp; try with_reducible rfl)
  go_simp
  refine wpAnyG_take (i := 6) (v := ?v7) rfl (by kernel_rfl) (fun _ _ _ h => h) (Or.inl ⟨by rfl, ?hy7⟩) HS.out ?rest7
  case hy7 => (intro ww _; go_simp; try with_reducible rfl)
  go_simp
  refine wpAnyG_take (i := 7) (v := ?v8) rfl (by kernel_rfl) (fun _ _ _ h => h) (Or.inl ⟨by rfl, ?hy8⟩) HS.out ?rest8
  case hy8 => (intro ww _; go_simp; try with_reducible rfl)
  go_simp
  refine wpAnyG_take (i := 8) (v := ?v9) rfl (by kernel_rfl) (fun _ _ _ h => h) (Or.inl ⟨by rfl, ?hy9⟩) HS.out ?rest9
  case hy9 => (intro ww _; go_simp; try with_reducible rfl)
  go_simp
  refine wpAnyG_take (i := 9) (v := ?v10) rfl (by kernel_rfl) (fun _ _ _ h => h) (Or.inl ⟨by rfl, ?hy10⟩) HS.out ?rest10
  case hy10 => (intro ww _; go_simp; try with_reducible rfl)
  go_simp
  refine wpAnyG_take (i := 10) (v := ?v11) rfl (by kernel_rfl) (fun _ _ _ h => h) (Or.inl ⟨by rfl, ?hy11⟩) HS.out ?rest11
  case hy11 => (intro ww _; go_simp; try with_reducible rfl)
  go_simp
  refine wpAnyG_take (i := 11) (v := .agg (sC p.com).toArray) rfl (by kernel_rfl) (fun _ _ _ h => h) (yieldsIf_load_mid (by rfl) 74 _ rfl g (3 + i * 43 + 17) rfl (sC p.com) _ (fun _ hS => SlA.com16 (p := p) hS HI3.out) Try.underlying74 rfl (by rw [HLs.out]; kernel_rfl)) HS.out ?rest99
  go_simp
  refine wpAnyG_take (i := 12) (v := ?v12) rfl (by kernel_rfl) (fun _ _ _ h => h) (Or.inl ⟨by rfl, ?hy12⟩) HS.out ?rest12
  case hy12 => (intro ww _; go_simp; try with_reducible rfl)
  go_simp
  refine wpAnyG_take (i := 13) (v := ?v13) rfl (by kernel_rfl) (fun _ _ _ h => h) (Or.inl ⟨by rfl, ?hy13⟩) HS.out ?rest13
  case hy13 => (intro ww _; go_simp; try with_reducible rfl)
  go_simp
  refine wpAnyG_take (i := 14) (v := ?v14) rfl (by kernel_rfl) (fun _ _ _ h => h) (Or.inl ⟨by rfl, ?hy14⟩) HS.out ?rest14
  case hy14 => (intro ww _; go_simp; try with_reducible rfl)
  go_simp
  refine wpAnyG_take (i := 15) (v := ?v15) rfl (by kernel_rfl) (fun _ _ _ h => h) (Or.inl ⟨by rfl, ?hy15⟩) HS.out ?rest15
  case hy15 => (intro ww _; go_simp; try with_reducible rfl)
  go_simp
  refine wpAnyG_take (i := 16) (v := ?v16) rfl (by kernel_rfl) (fun _ _ _ h => h) (Or.inl ⟨by rfl, ?hy16⟩) HS.out ?rest16
  case hy16 => (intro ww hS; have y0 := pro_of hS HI3.out; go_simp; try with_reducible rfl)
  go_simp
  refine wpAnyG_all (rs := [17]) (by kernel_rfl) (by simp) ?_
  intro i hi
  obtain rfl := List.mem_singleton.1 hi
  clear hi
  refine wpOp_s rfl (by rfl) (fun K hK => ?_)
  go_simp
  refine (HQ.out _ _ HS.out).mono ?_
  rintro e w5 ⟨rfl, hb5⟩
  have H5 : Hid (LgM w5 N g ep am cm l v ps ∧ But g w w5) := hid ⟨H3.out.1.keep ((Below.refl _ _).drew.trans hb5), H3.out.2.trans (But.of ((Below.refl _ _).drew.trans hb5))⟩
  have HS5 : Hid (SlA w5 g ep am cm l v ps) := hid H5.out.1.at_
  clear hb5
  refine hK _ _ ⟨fun _ => HS5.out, ?_⟩
  clear hK K
  go_simp
  refine wpAnyG_take (i := 18) (v := ?v17) rfl (by kernel_rfl) (fun _ _ _ h => h) (Or.inl ⟨by rfl, ?hy17⟩) HS5.out ?rest17
  case hy17 => (intro ww _; go_simp; try with_reducible rfl)
  go_simp
  refine wpAnyG_done (by kernel_rfl) ?_ _
  go_simp
  have y0 : w5.cell? ⟨g, 3 + i * 43, none⟩ = some (.string p.pro) := pro_of (p := p) H5.out.1.at_ HI3.out
  have HLen : Hid ((lgC ep (.slice am l.length cm) v ps).length = 175) := hid (by rw [lgC]; simp [flat_len43 H5.out.1.at_.ok, H5.out.1.at_.four])
  go_wp2_with (first
    | (refine wl_storeV rfl 9 _ _ rfl g (3 + i * 43 + 42) rfl (.string p.pro) rfl rfl rfl (lgC ep (.slice am l.length cm) v ps) 81 H5.out.1.at_.blk (by rw [HLen.out]; have := HSl.out.2; omega) (by kernel_rfl) ?_; intro w7 Hz; have H7 := hid (H5.out.1.putdon HI3.out p.pro Hz.out); clear Hz))
  first | go_end0 | refine bodyPost_ret (results_none rfl _ _ _) rfl ?_
  have hh := H7.out
  exact ⟨rfl, { p with ct := p.ct, don := p.pro }, by exact hh.1, rfl, H5.out.2.trans hh.2, same_ct HI.out rfl⟩
set_option maxRecDepth 100000 in
set_option maxHeartbeats 3200000 in
theorem ssettle_keep_few (N g : Nat) (ep : Int) (am : Option Addr) (cm : Nat) (l : List Int) (v : Int) (ps : List Pl) (i : Nat) (p : Pl) (w : World) (h : LgM w N g ep am cm l v ps) (hl : 0 < l.length) (hlm : l.length ≤ 1000) (he : 0 ≤ ep ∧ ep ≤ 60) (_hv : 0 ≤ v ∧ v ≤ 15) (hi : ps[i]? = some p) (_hsz : p.pro.size ≤ 64) (hp : isPrep l.length p.pp = true) (hc : p.ct.1.2.2.2.length ≠ 0) (hw : p.ct.1.1 = v) (hd : p.don.size = 0) (hq : quoOk l.length p.com p.pro = false) :
    Calls Try.prog 48 #[.pointer (some ⟨g, 0, none⟩), .int .i64 (4 * ep + 1 + (i : Int))] w fun e w' => e = .returned (.tuple #[]) ∧ SetPost w w' N g ep am cm l v ps i { p.pp with ct := p.ct.1, don := p.don } := by
  have hi4 : i < 4 := by have := (List.getElem?_eq_some_iff.1 hi).1; rw [h.at_.four] at this; exact this
  have HP := hid (sprep_any g ep am cm l v ps i p w h.at_ hl hlm he hi)
  rw [hp] at HP
  have HA : Hid (∀ (u : World) (qs : List Pl), SlA u g ep am cm l v qs → Calls Try.prog 42 #[.pointer (some ⟨g, 0, none⟩), .int .i64 (4 * ep + 1 + (i : Int))] u fun e w' => e = .returned (.pointer (some ⟨g, 3 + i * 43, none⟩)) ∧ w' = u) := hid (fun u qs hu => sat_yes g ep am cm l v qs i u hu hl he hi4)
  have HQ : Hid (∀ (u : World) (qs : List Pl), SlA u g ep am cm l v qs → Calls Try.prog 52 #[.pointer (some ⟨g, 0, none⟩), .agg (sC p.com).toArray, .string p.pro] u fun e w' => e = .returned (.bool (quoOk l.length p.com p.pro)) ∧ Below u.heap.size u w') := hid (fun u qs hu => squo_any g ep am cm l v qs p.com (h.at_.ok p (List.mem_of_getElem? hi)).com p.pro u hu hlm)
  rw [hq] at HQ
  have HLs : Hid ((sC p.com).length = 16) := hid (by rw [sC_len]; exact (h.at_.ok p (List.mem_of_getElem? hi)).com)
  have HL := hid h
  have HSz : Hid (N ≤ w.heap.size) := hid h.sz
  have HI := hid hi
  have HSl : Hid ((lgC ep (.slice am l.length cm) v ps).length = 175 ∧ i < 4) := hid ⟨by rw [lgC]; simp [flat_len43 h.at_.ok, h.at_.four], hi4⟩
  obtain ⟨ac, kc, ecv, _, _⟩ := h.rd p (List.mem_of_getElem? hi)
  have HZ : Hid (∀ u, LgM u N g ep am cm l v ps → u.cell? ⟨g, 3 + i * 43 + 33, none⟩ = some (.int .i64 p.ct.1.1) ∧ u.cell? ⟨g, 3 + i * 43 + 33 + 8, none⟩ = some (.slice ac p.ct.1.2.2.2.length kc) ∧ u.cell? ⟨g, 3 + i * 43 + 41, none⟩ = some (.slice ac p.ct.1.2.2.2.length kc)) := hid (fun u hu => by
    have hok := hu.at_.ok p (List.mem_of_getElem? hi)
    have e8 := hu.at_.at i p (33 + 8) _ hi (by omega) (plC_ct hok 8 _ (by rw [ecv]; rfl))
    exact ⟨hu.at_.at i p 33 _ hi (by omega) (plC_ct hok 0 _ rfl), by rw [Nat.add_assoc (3 + i * 43)]; exact e8, e8⟩)
  have hn0 : ((p.ct.1.2.2.2.length : Int) == 0) = false := beq_eq_false_iff_ne.2 (by omega)
  have hn1 : (p.ct.1.2.2.2.length == 0) = false := beq_eq_false_iff_ne.2 hc
  have hv1 : (p.ct.1.1 != v) = false := by rw [hw]; simp
  have hv2 : (p.ct.1.1 == v) = true := by rw [hw]; simp
  have hds : p.don.toList.isEmpty = true := toList_nil hd
  generalize hcl : p.ct.1.2.2.2.length = CL at HZ hn0 hn1
  generalize p.ct.1.1 = CV at HZ hv1 hv2
  generalize 4 * ep + 1 + (i : Int) = s at HP HA ⊢
  clear h hl hlm he _hv hi _hsz hp hi4 hc hw hd hq ecv hcl
  go_enter Try.func48, Try.ntmps48
  go_wp2_with (first
    | (go_at_call 29; go_must (refine HP.out.mono ?_); rintro e w1 ⟨rfl, hb1⟩; have H1 : Hid (LgM w1 N g ep am cm l v ps ∧ Below w.heap.size w w1) := hid ⟨HL.out.keep hb1, hb1⟩; clear hb1)
    | (go_at_call 42; go_must (refine (HA.out _ _ H1.out.1.at_).mono ?_); rintro e wq ⟨rfl, hwq⟩; replace hwq := hwq.symm; subst hwq))
  obtain ⟨wd, ed⟩ : ∃ u, u = w1.drew := ⟨_, rfl⟩
  have HD : Hid (LgM wd N g ep am cm l v ps ∧ Below w.heap.size w wd) := hid (by rw [ed]; exact ⟨H1.out.1.keep (Below.refl _ _).drew, H1.out.2.drew⟩)
  have HS : Hid (LgM wd N g ep am cm l v ps) := hid HD.out.1
  refine wp_region_G (S := fun ww => LgM ww N g ep am cm l v ps) (ex := []) (by kernel_rfl) ?_
  try (change wpAnyG _ _ _ _ _ _ _ _ _ (World.drew _))
  try rw [← ed]
  clear ed
  refine wpAnyG_take (i := 0) (v := ?v401) rfl (by kernel_rfl) (fun _ _ _ h => h) (Or.inl ⟨by rfl, ?hy401⟩) HS.out ?rest401
  case hy401 => (intro ww _; go_simp; try with_reducible rfl)
  go_simp
  refine wpAnyG_take (i := 1) (v := ?v402) rfl (by kernel_rfl) (fun _ _ _ h => h) (Or.inl ⟨by rfl, ?hy402⟩) HS.out ?rest402
  case hy402 => (intro ww _; go_simp; try with_reducible rfl)
  go_simp
  refine wpAnyG_take (i := 2) (v := ?v403) rfl (by kernel_rfl) (fun _ _ _ h => h) (Or.inl ⟨by rfl, ?hy403⟩) HS.out ?rest403
  case hy403 => (intro ww _; go_simp; try with_reducible rfl)
  go_simp
  refine wpAnyG_take (i := 3) (v := ?v404) rfl (by kernel_rfl) (fun _ _ _ h => h) (Or.inl ⟨by rfl, ?hy404⟩) HS.out ?rest404
  case hy404 => (intro ww _; go_simp; try with_reducible rfl)
  go_simp
  refine wpAnyG_take (i := 4) (v := ?v405) rfl (by kernel_rfl) (fun _ _ _ h => h) (Or.inl ⟨by rfl, ?hy405⟩) HS.out ?rest405
  case hy405 => (intro ww hS; obtain ⟨z0, z8, z9⟩ := HZ.out _ hS; have zv := hS.at_.c2; go_simp; try with_reducible rfl)
  go_simp
  refine wpAnyG_take (i := 5) (v := ?v406) rfl (by kernel_rfl) (fun _ _ _ h => h) (Or.inl ⟨by rfl, ?hy406⟩) HS.out ?rest406
  case hy406 => (intro ww _; go_simp; try with_reducible rfl)
  go_simp
  refine wpAnyG_take (i := 6) (v := ?v407) rfl (by kernel_rfl) (fun _ _ _ h => h) (Or.inl ⟨by rfl, ?hy407⟩) HS.out ?rest407
  case hy407 => (intro ww _; go_simp; try with_reducible rfl)
  go_simp
  refine wpAnyG_take (i := 7) (v := ?v408) rfl (by kernel_rfl) (fun _ _ _ h => h) (Or.inl ⟨by rfl, ?hy408⟩) HS.out ?rest408
  case hy408 => (intro ww _; go_simp; try with_reducible rfl)
  go_simp
  refine wpAnyG_take (i := 8) (v := ?v409) rfl (by kernel_rfl) (fun _ _ _ h => h) (Or.inl ⟨by rfl, ?hy409⟩) HS.out ?rest409
  case hy409 => (intro ww _; go_simp; try with_reducible rfl)
  go_simp
  refine wpAnyG_take (i := 9) (v := ?v410) rfl (by kernel_rfl) (fun _ _ _ h => h) (Or.inl ⟨by rfl, ?hy410⟩) HS.out ?rest410
  case hy410 => (intro ww _; go_simp; try with_reducible rfl)
  go_simp
  refine wpAnyG_take (i := 10) (v := ?v411) rfl (by kernel_rfl) (fun _ _ _ h => h) (Or.inl ⟨by rfl, ?hy411⟩) HS.out ?rest411
  case hy411 => (intro ww _; go_simp; try with_reducible rfl)
  go_simp
  refine wpAnyG_take (i := 11) (v := ?v412) rfl (by kernel_rfl) (fun _ _ _ h => h) (Or.inl ⟨by rfl, ?hy412⟩) HS.out ?rest412
  case hy412 => (intro ww _; go_simp; try with_reducible rfl)
  go_simp
  refine wpAnyG_take (i := 12) (v := ?v413) rfl (by kernel_rfl) (fun _ _ _ h => h) (Or.inl ⟨by rfl, ?hy413⟩) HS.out ?rest413
  case hy413 => (intro ww hS; obtain ⟨z0, z8, z9⟩ := HZ.out _ hS; have zv := hS.at_.c2; go_simp; try with_reducible rfl)
  go_simp
  refine wpAnyG_take (i := 13) (v := ?v414) rfl (by kernel_rfl) (fun _ _ _ h => h) (Or.inl ⟨by rfl, ?hy414⟩) HS.out ?rest414
  case hy414 => (intro ww _; go_simp; try with_reducible rfl)
  go_simp
  refine wpAnyG_take (i := 14) (v := ?v415) rfl (by kernel_rfl) (fun _ _ _ h => h) (Or.inl ⟨by rfl, ?hy415⟩) HS.out ?rest415
  case hy415 => (intro ww _; go_simp; try with_reducible rfl)
  go_simp
  refine wpAnyG_take (i := 15) (v := ?v416) rfl (by kernel_rfl) (fun _ _ _ h => h) (Or.inl ⟨by rfl, ?hy416⟩) HS.out ?rest416
  case hy416 => (intro ww _; go_simp; try with_reducible rfl)
  go_simp
  refine wpAnyG_take (i := 16) (v := ?v417) rfl (by kernel_rfl) (fun _ _ _ h => h) (Or.inl ⟨by rfl, ?hy417⟩) HS.out ?rest417
  case hy417 => (intro ww hS; obtain ⟨z0, z8, z9⟩ := HZ.out _ hS; have zv := hS.at_.c2; go_simp; try with_reducible rfl)
  go_simp
  refine wpAnyG_take (i := 17) (v := ?v418) rfl (by kernel_rfl) (fun _ _ _ h => h) (Or.inl ⟨by rfl, ?hy418⟩) HS.out ?rest418
  case hy418 => (intro ww _; go_simp; try with_reducible rfl)
  go_simp
  refine wpAnyG_take (i := 18) (v := ?v419) rfl (by kernel_rfl) (fun _ _ _ h => h) (Or.inl ⟨by rfl, ?hy419⟩) HS.out ?rest419
  case hy419 => (intro ww _; go_simp; try with_reducible rfl)
  go_simp
  refine wpAnyG_done (by kernel_rfl) ?_ _
  go_simp
  clear HS
  go_wp2
  have H3 : Hid (LgM wd N g ep am cm l v ps ∧ But g w wd) := hid ⟨HD.out.1, But.of HD.out.2⟩
  have HI3 : Hid (ps[i]? = some p) := HI
  have HS : Hid (SlA wd.drew g ep am cm l v ps) := hid (H3.out.1.at_.keep (Below.refl _ _).drew)
  refine wp_region_G (S := fun ww => SlA ww g ep am cm l v ps) (ex := []) (by kernel_rfl) ?_
  try (change wpAnyG _ _ _ _ _ _ _ _ _ (World.drew _))
  refine wpAnyG_take (i := 0) (v := ?v1) rfl (by kernel_rfl) (fun _ _ _ h => h) (Or.inl ⟨by rfl, ?hy1⟩) HS.out ?rest1
  case hy1 => (intro ww _; go_simp; try with_reducible rfl)
  go_simp
  refine wpAnyG_take (i := 1) (v := ?v2) rfl (by kernel_rfl) (fun _ _ _ h => h) (Or.inl ⟨by rfl, ?hy2⟩) HS.out ?rest2
  case hy2 => (intro ww _; go_simp; try with_reducible rfl)
  go_simp
  refine wpAnyG_take (i := 2) (v := ?v3) rfl (by kernel_rfl) (fun _ _ _ h => h) (Or.inl ⟨by rfl, ?hy3⟩) HS.out ?rest3
  case hy3 => (intro ww _; go_simp; try with_reducible rfl)
  go_simp
  refine wpAnyG_take (i := 3) (v := ?v4) rfl (by kernel_rfl) (fun _ _ _ h => h) (Or.inl ⟨by rfl, ?hy4⟩) HS.out ?rest4
  case hy4 => (intro ww hS; have y9 := don_of hS HI3.out; go_simp; try with_reducible rfl)
  go_simp
  refine wpAnyG_take (i := 4) (v := ?v5) rfl (by kernel_rfl) (fun _ _ _ h => h) (Or.inl ⟨by rfl, ?hy5⟩) HS.out ?rest5
  case hy5 => (intro ww _; go_simp; try with_reducible rfl)
  go_simp
  refine wpAnyG_take (i := 5) (v := ?v6) rfl (by kernel_rfl) (fun _ _ _ h => h) (Or.inl ⟨by rfl, ?hy6⟩) HS.out ?rest6
  case hy6 => (intro ww _; go_simp; try with_reducible rfl)
  go_simp
  refine wpAnyG_take (i := 6) (v := ?v7) rfl (by kernel_rfl) (fun _ _ _ h => h) (Or.inl ⟨by rfl, ?hy7⟩) HS.out ?rest7
  case hy7 => (intro ww _; go_simp; try with_reducible rfl)
  go_simp
  refine wpAnyG_take (i := 7) (v := ?v8) rfl (by kernel_rfl) (fun _ _ _ h => h) (Or.inl ⟨by rfl, ?hy8⟩) HS.out ?rest8
  case hy8 => (intro ww _; go_simp; try with_reducible rfl)
  go_simp
  refine wpAnyG_take (i := 8) (v := ?v9) rfl (by kernel_rfl) (fun _ _ _ h => h) (Or.inl ⟨by rfl, ?hy9⟩) HS.out ?rest9
  case hy9 => (intro ww _; go_simp; try with_reducible rfl)
  go_simp
  refine wpAnyG_take (i := 9) (v := ?v10) rfl (by kernel_rfl) (fun _ _ _ h => h) (Or.inl ⟨by rfl, ?hy10⟩) HS.out ?rest10
  case hy10 => (intro ww _; go_simp; try with_reducible rfl)
  go_simp
  refine wpAnyG_take (i := 10) (v := ?v11) rfl (by kernel_rfl) (fun _ _ _ h => h) (Or.inl ⟨by rfl, ?hy11⟩) HS.out ?rest11
  case hy11 => (intro ww _; go_simp; try with_reducible rfl)
  go_simp
  refine wpAnyG_take (i := 11) (v := .agg (sC p.com).toArray) rfl (by kernel_rfl) (fun _ _ _ h => h) (yieldsIf_load_mid (by rfl) 74 _ rfl g (3 + i * 43 + 17) rfl (sC p.com) _ (fun _ hS => SlA.com16 (p := p) hS HI3.out) Try.underlying74 rfl (by rw [HLs.out]; kernel_rfl)) HS.out ?rest99
  go_simp
  refine wpAnyG_take (i := 12) (v := ?v12) rfl (by kernel_rfl) (fun _ _ _ h => h) (Or.inl ⟨by rfl, ?hy12⟩) HS.out ?rest12
  case hy12 => (intro ww _; go_simp; try with_reducible rfl)
  go_simp
  refine wpAnyG_take (i := 13) (v := ?v13) rfl (by kernel_rfl) (fun _ _ _ h => h) (Or.inl ⟨by rfl, ?hy13⟩) HS.out ?rest13
  case hy13 => (intro ww _; go_simp; try with_reducible rfl)
  go_simp
  refine wpAnyG_take (i := 14) (v := ?v14) rfl (by kernel_rfl) (fun _ _ _ h => h) (Or.inl ⟨by rfl, ?hy14⟩) HS.out ?rest14
  case hy14 => (intro ww _; go_simp; try with_reducible rfl)
  go_simp
  refine wpAnyG_take (i := 15) (v := ?v15) rfl (by kernel_rfl) (fun _ _ _ h => h) (Or.inl ⟨by rfl, ?hy15⟩) HS.out ?rest15
  case hy15 => (intro ww _; go_simp; try with_reducible rfl)
  go_simp
  refine wpAnyG_take (i := 16) (v := ?v16) rfl (by kernel_rfl) (fun _ _ _ h => h) (Or.inl ⟨by rfl, ?hy16⟩) HS.out ?rest16
  case hy16 => (intro ww hS; have y0 := pro_of hS HI3.out; go_simp; try with_reducible rfl)
  go_simp
  refine wpAnyG_all (rs := [17]) (by kernel_rfl) (by simp) ?_
  intro i hi
  obtain rfl := List.mem_singleton.1 hi
  clear hi
  refine wpOp_s rfl (by rfl) (fun K hK => ?_)
  go_simp
  refine (HQ.out _ _ HS.out).mono ?_
  rintro e w5 ⟨rfl, hb5⟩
  have H5 : Hid (LgM w5 N g ep am cm l v ps ∧ But g w w5) := hid ⟨H3.out.1.keep ((Below.refl _ _).drew.trans hb5), H3.out.2.trans (But.of ((Below.refl _ _).drew.trans hb5))⟩
  have HS5 : Hid (SlA w5 g ep am cm l v ps) := hid H5.out.1.at_
  clear hb5
  refine hK _ _ ⟨fun _ => HS5.out, ?_⟩
  clear hK K
  go_simp
  refine wpAnyG_take (i := 18) (v := ?v17) rfl (by kernel_rfl) (fun _ _ _ h => h) (Or.inl ⟨by rfl, ?hy17⟩) HS5.out ?rest17
  case hy17 => (intro ww _; go_simp; try with_reducible rfl)
  go_simp
  refine wpAnyG_done (by kernel_rfl) ?_ _
  go_simp
  go_wp2
  first | go_end0 | refine bodyPost_ret (results_none rfl _ _ _) rfl ?_
  exact ⟨rfl, p, by rw [set_same HI.out]; exact H5.out.1, rfl, H5.out.2, same_ct HI.out rfl⟩
set_option maxRecDepth 100000 in
set_option maxHeartbeats 3200000 in
theorem ssettle_none_don (N g : Nat) (ep : Int) (am : Option Addr) (cm : Nat) (l : List Int) (v : Int) (ps : List Pl) (i : Nat) (p : Pl) (w : World) (h : LgM w N g ep am cm l v ps) (hl : 0 < l.length) (hlm : l.length ≤ 1000) (he : 0 ≤ ep ∧ ep ≤ 60) (_hv : 0 ≤ v ∧ v ≤ 15) (hi : ps[i]? = some p) (_hsz : p.pro.size ≤ 64) (hp : isPrep l.length p.pp = true) (hc : p.ct.1.2.2.2.length = 0) (hd : p.don.size ≠ 0) :
    Calls Try.prog 48 #[.pointer (some ⟨g, 0, none⟩), .int .i64 (4 * ep + 1 + (i : Int))] w fun e w' => e = .returned (.tuple #[]) ∧ SetPost w w' N g ep am cm l v ps i { p.pp with ct := (certP ep v (4 * ep + 1 + (i : Int)) p.pp), don := p.don } := by
  have hi4 : i < 4 := by have := (List.getElem?_eq_some_iff.1 hi).1; rw [h.at_.four] at this; exact this
  have HP := hid (sprep_any g ep am cm l v ps i p w h.at_ hl hlm he hi)
  rw [hp] at HP
  have HA : Hid (∀ (u : World) (qs : List Pl), SlA u g ep am cm l v qs → Calls Try.prog 42 #[.pointer (some ⟨g, 0, none⟩), .int .i64 (4 * ep + 1 + (i : Int))] u fun e w' => e = .returned (.pointer (some ⟨g, 3 + i * 43, none⟩)) ∧ w' = u) := hid (fun u qs hu => sat_yes g ep am cm l v qs i u hu hl he hi4)
  have HQ : Hid (∀ (u : World) (qs : List Pl), SlA u g ep am cm l v qs → Calls Try.prog 52 #[.pointer (some ⟨g, 0, none⟩), .agg (sC p.com).toArray, .string p.pro] u fun e w' => e = .returned (.bool (quoOk l.length p.com p.pro)) ∧ Below u.heap.size u w') := hid (fun u qs hu => squo_any g ep am cm l v qs p.com (h.at_.ok p (List.mem_of_getElem? hi)).com p.pro u hu hlm)
  obtain ⟨c, ec⟩ : ∃ c, c = certP ep v (4 * ep + 1 + (i : Int)) p.pp := ⟨_, rfl⟩
  have HC : Hid (∀ u : World, SlA u g ep am cm l v ps → Calls Try.prog 66 #[.pointer (some ⟨g, 0, none⟩), .int .i64 (4 * ep + 1 + (i : Int)), .agg (nowC p).toArray] u fun e w' => ∃ a k, e = .returned (.agg (ctC c (.slice a c.2.2.2.length k)).toArray) ∧ PairsIn w' a c.2.2.2 ∧ (∀ x, a = some x → u.heap.size ≤ x.block) ∧ Below u.heap.size u w') := hid (fun u hu => by rw [ec]; exact scertify_any g ep am cm l v ps p (h.at_.ok p (List.mem_of_getElem? hi)) _hsz (4 * ep + 1 + (i : Int)) (by omega) u hu)
  rw [← ec]
  have HNow : Hid ((nowC p).length = 33) := hid (nowC_len (h.at_.ok p (List.mem_of_getElem? hi)))
  have HLs : Hid ((sC p.com).length = 16) := hid (by rw [sC_len]; exact (h.at_.ok p (List.mem_of_getElem? hi)).com)
  have HL := hid h
  have HSz : Hid (N ≤ w.heap.size) := hid h.sz
  have HI := hid hi
  have HSl : Hid ((lgC ep (.slice am l.length cm) v ps).length = 175 ∧ i < 4) := hid ⟨by rw [lgC]; simp [flat_len43 h.at_.ok, h.at_.four], hi4⟩
  obtain ⟨ac, kc, ecv, _, _⟩ := h.rd p (List.mem_of_getElem? hi)
  have HZ : Hid (∀ u, LgM u N g ep am cm l v ps → u.cell? ⟨g, 3 + i * 43 + 33, none⟩ = some (.int .i64 p.ct.1.1) ∧ u.cell? ⟨g, 3 + i * 43 + 33 + 8, none⟩ = some (.slice ac p.ct.1.2.2.2.length kc) ∧ u.cell? ⟨g, 3 + i * 43 + 41, none⟩ = some (.slice ac p.ct.1.2.2.2.length kc)) := hid (fun u hu => by
    have hok := hu.at_.ok p (List.mem_of_getElem? hi)
    have e8 := hu.at_.at i p (33 + 8) _ hi (by omega) (plC_ct hok 8 _ (by rw [ecv]; rfl))
    exact ⟨hu.at_.at i p 33 _ hi (by omega) (plC_ct hok 0 _ rfl), by rw [Nat.add_assoc (3 + i * 43)]; exact e8, e8⟩)
  have hn0 : ((p.ct.1.2.2.2.length : Int) == 0) = true := by rw [hc]; rfl
  have hn1 : (p.ct.1.2.2.2.length == 0) = true := by rw [hc]; rfl
  have hds : p.don.toList.isEmpty = false := toList_cons hd
  generalize hcl : p.ct.1.2.2.2.length = CL at HZ hn0 hn1
  generalize 4 * ep + 1 + (i : Int) = s at HP HA HC ⊢
  clear h hl hlm he _hv hi _hsz hp hi4 hc hd ec ecv hcl
  go_enter Try.func48, Try.ntmps48
  go_wp2_with (first
    | (go_at_call 29; go_must (refine HP.out.mono ?_); rintro e w1 ⟨rfl, hb1⟩; have H1 : Hid (LgM w1 N g ep am cm l v ps ∧ Below w.heap.size w w1) := hid ⟨HL.out.keep hb1, hb1⟩; clear hb1)
    | (go_at_call 42; go_must (refine (HA.out _ _ H1.out.1.at_).mono ?_); rintro e wq ⟨rfl, hwq⟩; replace hwq := hwq.symm; subst hwq))
  obtain ⟨wd, ed⟩ : ∃ u, u = w1.drew := ⟨_, rfl⟩
  have HD : Hid (LgM wd N g ep am cm l v ps ∧ Below w.heap.size w wd) := hid (by rw [ed]; exact ⟨H1.out.1.keep (Below.refl _ _).drew, H1.out.2.drew⟩)
  have HS : Hid (LgM wd N g ep am cm l v ps) := hid HD.out.1
  refine wp_region_G (S := fun ww => LgM ww N g ep am cm l v ps) (ex := []) (by kernel_rfl) ?_
  try (change wpAnyG _ _ _ _ _ _ _ _ _ (World.drew _))
  try rw [← ed]
  clear ed
  refine wpAnyG_take (i := 0) (v := ?v401) rfl (by kernel_rfl) (fun _ _ _ h => h) (Or.inl ⟨by rfl, ?hy401⟩) HS.out ?rest401
  case hy401 => (intro ww _; go_simp; try with_reducible rfl)
  go_simp
  refine wpAnyG_take (i := 1) (v := ?v402) rfl (by kernel_rfl) (fun _ _ _ h => h) (Or.inl ⟨by rfl, ?hy402⟩) HS.out ?rest402
  case hy402 => (intro ww _; go_simp; try with_reducible rfl)
  go_simp
  refine wpAnyG_take (i := 2) (v := ?v403) rfl (by kernel_rfl) (fun _ _ _ h => h) (Or.inl ⟨by rfl, ?hy403⟩) HS.out ?rest403
  case hy403 => (intro ww _; go_simp; try with_reducible rfl)
  go_simp
  refine wpAnyG_take (i := 3) (v := ?v404) rfl (by kernel_rfl) (fun _ _ _ h => h) (Or.inl ⟨by rfl, ?hy404⟩) HS.out ?rest404
  case hy404 => (intro ww _; go_simp; try with_reducible rfl)
  go_simp
  refine wpAnyG_take (i := 4) (v := ?v405) rfl (by kernel_rfl) (fun _ _ _ h => h) (Or.inl ⟨by rfl, ?hy405⟩) HS.out ?rest405
  case hy405 => (intro ww hS; obtain ⟨z0, z8, z9⟩ := HZ.out _ hS; have zv := hS.at_.c2; go_simp; try with_reducible rfl)
  go_simp
  refine wpAnyG_take (i := 5) (v := ?v406) rfl (by kernel_rfl) (fun _ _ _ h => h) (Or.inl ⟨by rfl, ?hy406⟩) HS.out ?rest406
  case hy406 => (intro ww _; go_simp; try with_reducible rfl)
  go_simp
  refine wpAnyG_take (i := 6) (v := ?v407) rfl (by kernel_rfl) (fun _ _ _ h => h) (Or.inl ⟨by rfl, ?hy407⟩) HS.out ?rest407
  case hy407 => (intro ww _; go_simp; try with_reducible rfl)
  go_simp
  refine wpAnyG_take (i := 7) (v := ?v408) rfl (by kernel_rfl) (fun _ _ _ h => h) (Or.inl ⟨by rfl, ?hy408⟩) HS.out ?rest408
  case hy408 => (intro ww _; go_simp; try with_reducible rfl)
  go_simp
  refine wpAnyG_take (i := 8) (v := undef) rfl (by kernel_rfl) (fun _ _ _ h => h) (Or.inr ⟨by rfl, rfl⟩) HS.out ?rest409
  go_simp
  refine wpAnyG_take (i := 9) (v := undef) rfl (by kernel_rfl) (fun _ _ _ h => h) (Or.inr ⟨by rfl, rfl⟩) HS.out ?rest410
  go_simp
  refine wpAnyG_take (i := 10) (v := undef) rfl (by kernel_rfl) (fun _ _ _ h => h) (Or.inr ⟨by rfl, rfl⟩) HS.out ?rest411
  go_simp
  refine wpAnyG_take (i := 11) (v := undef) rfl (by kernel_rfl) (fun _ _ _ h => h) (Or.inr ⟨by rfl, rfl⟩) HS.out ?rest412
  go_simp
  refine wpAnyG_take (i := 12) (v := undef) rfl (by kernel_rfl) (fun _ _ _ h => h) (Or.inr ⟨by rfl, rfl⟩) HS.out ?rest413
  go_simp
  refine wpAnyG_take (i := 13) (v := undef) rfl (by kernel_rfl) (fun _ _ _ h => h) (Or.inr ⟨by rfl, rfl⟩) HS.out ?rest414
  go_simp
  refine wpAnyG_take (i := 14) (v := undef) rfl (by kernel_rfl) (fun _ _ _ h => h) (Or.inr ⟨by rfl, rfl⟩) HS.out ?rest415
  go_simp
  refine wpAnyG_take (i := 15) (v := undef) rfl (by kernel_rfl) (fun _ _ _ h => h) (Or.inr ⟨by rfl, rfl⟩) HS.out ?rest416
  go_simp
  refine wpAnyG_take (i := 16) (v := undef) rfl (by kernel_rfl) (fun _ _ _ h => h) (Or.inr ⟨by rfl, rfl⟩) HS.out ?rest417
  go_simp
  refine wpAnyG_take (i := 17) (v := undef) rfl (by kernel_rfl) (fun _ _ _ h => h) (Or.inr ⟨by rfl, rfl⟩) HS.out ?rest418
  go_simp
  refine wpAnyG_take (i := 18) (v := ?v419) rfl (by kernel_rfl) (fun _ _ _ h => h) (Or.inl ⟨by rfl, ?hy419⟩) HS.out ?rest419
  case hy419 => (intro ww _; go_simp; try with_reducible rfl)
  go_simp
  refine wpAnyG_done (by kernel_rfl) ?_ _
  go_simp
  clear HS
  go_wp2_with (first
    | (refine wl_load_at rfl 76 _ rfl g (3 + i * 43) rfl (nowC p) (HD.out.1.at_.now33 HI.out) _ Try.underlying76 rfl (by rw [HNow.out]; kernel_rfl) ?_)
    | (go_at_call 66; go_must (refine (HC.out _ HD.out.1.at_).mono ?_); rintro e w2 ⟨a2, k2, rfl, hp2, hN2, hb2⟩; have H2 : Hid (LgM w2 N g ep am cm l v ps ∧ Below w.heap.size w w2 ∧ PairsIn w2 a2 c.2.2.2 ∧ (∀ x, a2 = some x → w.heap.size ≤ x.block)) := hid ⟨HD.out.1.keep hb2, HD.out.2.trans (hb2.mono HD.out.2.size), hp2, fun x hx => Nat.le_trans HD.out.2.size (hN2 x hx)⟩; clear hp2 hN2 hb2)
    | (have := H2; refine wl_store_blk rfl 46 _ _ rfl g (3 + i * 43 + 33) rfl (ctC c (.slice a2 c.2.2.2.length k2)).toArray rfl (lgC ep (.slice am l.length cm) v ps) 81 H2.out.1.at_.blk (by rw [HSl.out.1]; have := HSl.out.2; simp [ctC]; omega) (by kernel_rfl) (by simp [ctC, Value.oneCell']) ?_; intro w3 Hz; go_must (have H3 : Hid (LgM w3 N g ep am cm l v (ps.set i { p with ct := (c, .slice a2 c.2.2.2.length k2) }) ∧ But g w w3) := hid (by have hh := H2.out.1.putct HI.out c a2 k2 H2.out.2.2.1 (fun x hx => Nat.le_trans HSz.out (H2.out.2.2.2 x hx)) Hz.out; exact ⟨hh.1, (But.of H2.out.2.1).trans hh.2⟩)); clear Hz))
  have HI3 : Hid ((ps.set i { p with ct := (c, .slice a2 c.2.2.2.length k2) })[i]? = some { p with ct := (c, .slice a2 c.2.2.2.length k2) }) := hid (set_get _ HI.out)
  have HS : Hid (SlA w3.drew g ep am cm l v (ps.set i { p with ct := (c, .slice a2 c.2.2.2.length k2) })) := hid (H3.out.1.at_.keep (Below.refl _ _).drew)
  refine wp_region_G (S := fun ww => SlA ww g ep am cm l v (ps.set i { p with ct := (c, .slice a2 c.2.2.2.length k2) })) (ex := []) (by kernel_rfl) ?_
  try (change wpAnyG _ _ _ _ _ _ _ _ _ (World.drew _))
  refine wpAnyG_take (i := 0) (v := ?v1) rfl (by kernel_rfl) (fun _ _ _ h => h) (Or.inl ⟨by rfl, ?hy1⟩) HS.out ?rest1
  case hy1 => (intro ww _; go_simp; try with_reducible rfl)
  go_simp
  refine wpAnyG_take (i := 1) (v := ?v2) rfl (by kernel_rfl) (fun _ _ _ h => h) (Or.inl ⟨by rfl, ?hy2⟩) HS.out ?rest2
  case hy2 => (intro ww _; go_simp; try with_reducible rfl)
  go_simp
  refine wpAnyG_take (i := 2) (v := ?v3) rfl (by kernel_rfl) (fun _ _ _ h => h) (Or.inl ⟨by rfl, ?hy3⟩) HS.out ?rest3
  case hy3 => (intro ww _; go_simp; try with_reducible rfl)
  go_simp
  refine wpAnyG_take (i := 3) (v := ?v4) rfl (by kernel_rfl) (fun _ _ _ h => h) (Or.inl ⟨by rfl, ?hy4⟩) HS.out ?rest4
  case hy4 => (intro ww hS; have y9 := don_of hS HI3.out; go_simp; try with_reducible rfl)
  go_simp
  refine wpAnyG_take (i := 4) (v := ?v5) rfl (by kernel_rfl) (fun _ _ _ h => h) (Or.inl ⟨by rfl, ?hy5⟩) HS.out ?rest5
  case hy5 => (intro ww _; go_simp; try with_reducible rfl)
  go_simp
  refine wpAnyG_take (i := 5) (v := ?v6) rfl (by kernel_rfl) (fun _ _ _ h => h) (Or.inl ⟨by rfl, ?hy6⟩) HS.out ?rest6
  case hy6 => (intro ww _; go_simp; try with_reducible rfl)
  go_simp
  refine wpAnyG_take (i := 6) (v := undef) rfl (by kernel_rfl) (fun _ _ _ h => h) (Or.inr ⟨by rfl, rfl⟩) HS.out ?rest7
  go_simp
  refine wpAnyG_take (i := 7) (v := undef) rfl (by kernel_rfl) (fun _ _ _ h => h) (Or.inr ⟨by rfl, rfl⟩) HS.out ?rest8
  go_simp
  refine wpAnyG_take (i := 8) (v := undef) rfl (by kernel_rfl) (fun _ _ _ h => h) (Or.inr ⟨by rfl, rfl⟩) HS.out ?rest9
  go_simp
  refine wpAnyG_take (i := 9) (v := undef) rfl (by kernel_rfl) (fun _ _ _ h => h) (Or.inr ⟨by rfl, rfl⟩) HS.out ?rest10
  go_simp
  refine wpAnyG_take (i := 10) (v := undef) rfl (by kernel_rfl) (fun _ _ _ h => h) (Or.inr ⟨by rfl, rfl⟩) HS.out ?rest11
  go_simp
  refine wpAnyG_take (i := 11) (v := undef) rfl (by kernel_rfl) (fun _ _ _ h => h) (Or.inr ⟨by rfl, rfl⟩) HS.out ?rest12
  go_simp
  refine wpAnyG_take (i := 12) (v := undef) rfl (by kernel_rfl) (fun _ _ _ h => h) (Or.inr ⟨by rfl, rfl⟩) HS.out ?rest13
  go_simp
  refine wpAnyG_take (i := 13) (v := undef) rfl (by kernel_rfl) (fun _ _ _ h => h) (Or.inr ⟨by rfl, rfl⟩) HS.out ?rest14
  go_simp
  refine wpAnyG_take (i := 14) (v := undef) rfl (by kernel_rfl) (fun _ _ _ h => h) (Or.inr ⟨by rfl, rfl⟩) HS.out ?rest15
  go_simp
  refine wpAnyG_take (i := 15) (v := undef) rfl (by kernel_rfl) (fun _ _ _ h => h) (Or.inr ⟨by rfl, rfl⟩) HS.out ?rest16
  go_simp
  refine wpAnyG_take (i := 16) (v := undef) rfl (by kernel_rfl) (fun _ _ _ h => h) (Or.inr ⟨by rfl, rfl⟩) HS.out ?rest17
  go_simp
  refine wpAnyG_take (i := 17) (v := undef) rfl (by kernel_rfl) (fun _ _ _ h => h) (Or.inr ⟨by rfl, rfl⟩) HS.out ?rest18
  go_simp
  refine wpAnyG_take (i := 18) (v := ?v19) rfl (by kernel_rfl) (fun _ _ _ h => h) (Or.inl ⟨by rfl, ?hy19⟩) HS.out ?rest19
  case hy19 => (intro ww _; go_simp; try with_reducible rfl)
  go_simp
  refine wpAnyG_done (by kernel_rfl) ?_ _
  go_simp
  go_wp2
  first | go_end0 | refine bodyPost_ret (results_none rfl _ _ _) rfl ?_
  exact ⟨rfl, { p with ct := (c, .slice a2 c.2.2.2.length k2) }, by rw [show ps.set i _ = ps.set i _ from rfl]; exact H3.out.1.keep (Below.refl _ _).drew, rfl, H3.out.2.trans (But.of (Below.refl _ _).drew), fun _ _ => .inr (fresh_ct H2.out.2.2.2)⟩
set_option maxRecDepth 100000 in
set_option maxHeartbeats 3200000 in
theorem ssettle_none_quo (N g : Nat) (ep : Int) (am : Option Addr) (cm : Nat) (l : List Int) (v : Int) (ps : List Pl) (i : Nat) (p : Pl) (w : World) (h : LgM w N g ep am cm l v ps) (hl : 0 < l.length) (hlm : l.length ≤ 1000) (he : 0 ≤ ep ∧ ep ≤ 60) (_hv : 0 ≤ v ∧ v ≤ 15) (hi : ps[i]? = some p) (_hsz : p.pro.size ≤ 64) (hp : isPrep l.length p.pp = true) (hc : p.ct.1.2.2.2.length = 0) (hd : p.don.size = 0) (hq : quoOk l.length p.com p.pro = true) :
    Calls Try.prog 48 #[.pointer (some ⟨g, 0, none⟩), .int .i64 (4 * ep + 1 + (i : Int))] w fun e w' => e = .returned (.tuple #[]) ∧ SetPost w w' N g ep am cm l v ps i { p.pp with ct := (certP ep v (4 * ep + 1 + (i : Int)) p.pp), don := p.pro } := by
  have hi4 : i < 4 := by have := (List.getElem?_eq_some_iff.1 hi).1; rw [h.at_.four] at this; exact this
  have HP := hid (sprep_any g ep am cm l v ps i p w h.at_ hl hlm he hi)
  rw [hp] at HP
  have HA : Hid (∀ (u : World) (qs : List Pl), SlA u g ep am cm l v qs → Calls Try.prog 42 #[.pointer (some ⟨g, 0, none⟩), .int .i64 (4 * ep + 1 + (i : Int))] u fun e w' => e = .returned (.pointer (some ⟨g, 3 + i * 43, none⟩)) ∧ w' = u) := hid (fun u qs hu => sat_yes g ep am cm l v qs i u hu hl he hi4)
  have HQ : Hid (∀ (u : World) (qs : List Pl), SlA u g ep am cm l v qs → Calls Try.prog 52 #[.pointer (some ⟨g, 0, none⟩), .agg (sC p.com).toArray, .string p.pro] u fun e w' => e = .returned (.bool (quoOk l.length p.com p.pro)) ∧ Below u.heap.size u w') := hid (fun u qs hu => squo_any g ep am cm l v qs p.com (h.at_.ok p (List.mem_of_getElem? hi)).com p.pro u hu hlm)
  rw [hq] at HQ
  obtain ⟨c, ec⟩ : ∃ c, c = certP ep v (4 * ep + 1 + (i : Int)) p.pp := ⟨_, rfl⟩
  have HC : Hid (∀ u : World, SlA u g ep am cm l v ps → Calls Try.prog 66 #[.pointer (some ⟨g, 0, none⟩), .int .i64 (4 * ep + 1 + (i : Int)), .agg (nowC p).toArray] u fun e w' => ∃ a k, e = .returned (.agg (ctC c (.slice a c.2.2.2.length k)).toArray) ∧ PairsIn w' a c.2.2.2 ∧ (∀ x, a = some x → u.heap.size ≤ x.block) ∧ Below u.heap.size u w') := hid (fun u hu => by rw [ec]; exact scertify_any g ep am cm l v ps p (h.at_.ok p (List.mem_of_getElem? hi)) _hsz (4 * ep + 1 + (i : Int)) (by omega) u hu)
  rw [← ec]
  have HNow : Hid ((nowC p).length = 33) := hid (nowC_len (h.at_.ok p (List.mem_of_getElem? hi)))
  have HLs : Hid ((sC p.com).length = 16) := hid (by rw [sC_len]; exact (h.at_.ok p (List.mem_of_getElem? hi)).com)
  have HL := hid h
  have HSz : Hid (N ≤ w.heap.size) := hid h.sz
  have HI := hid hi
  have HSl : Hid ((lgC ep (.slice am l.length cm) v ps).length = 175 ∧ i < 4) := hid ⟨by rw [lgC]; simp [flat_len43 h.at_.ok, h.at_.four], hi4⟩
  obtain ⟨ac, kc, ecv, _, _⟩ := h.rd p (List.mem_of_getElem? hi)
  have HZ : Hid (∀ u, LgM u N g ep am cm l v ps → u.cell? ⟨g, 3 + i * 43 + 33, none⟩ = some (.int .i64 p.ct.1.1) ∧ u.cell? ⟨g, 3 + i * 43 + 33 + 8, none⟩ = some (.slice ac p.ct.1.2.2.2.length kc) ∧ u.cell? ⟨g, 3 + i * 43 + 41, none⟩ = some (.slice ac p.ct.1.2.2.2.length kc)) := hid (fun u hu => by
    have hok := hu.at_.ok p (List.mem_of_getElem? hi)
    have e8 := hu.at_.at i p (33 + 8) _ hi (by omega) (plC_ct hok 8 _ (by rw [ecv]; rfl))
    exact ⟨hu.at_.at i p 33 _ hi (by omega) (plC_ct hok 0 _ rfl), by rw [Nat.add_assoc (3 + i * 43)]; exact e8, e8⟩)
  have hn0 : ((p.ct.1.2.2.2.length : Int) == 0) = true := by rw [hc]; rfl
  have hn1 : (p.ct.1.2.2.2.length == 0) = true := by rw [hc]; rfl
  have hds : p.don.toList.isEmpty = true := toList_nil hd
  generalize hcl : p.ct.1.2.2.2.length = CL at HZ hn0 hn1
  generalize 4 * ep + 1 + (i : Int) = s at HP HA HC ⊢
  clear h hl hlm he _hv hi _hsz hp hi4 hc hd hq ec ecv hcl
  go_enter Try.func48, Try.ntmps48
  go_wp2_with (first
    | (go_at_call 29; go_must (refine HP.out.mono ?_); rintro e w1 ⟨rfl, hb1⟩; have H1 : Hid (LgM w1 N g ep am cm l v ps ∧ Below w.heap.size w w1) := hid ⟨HL.out.keep hb1, hb1⟩; clear hb1)
    | (go_at_call 42; go_must (refine (HA.out _ _ H1.out.1.at_).mono ?_); rintro e wq ⟨rfl, hwq⟩; replace hwq := hwq.symm; subst hwq))
  obtain ⟨wd, ed⟩ : ∃ u, u = w1.drew := ⟨_, rfl⟩
  have HD : Hid (LgM wd N g ep am cm l v ps ∧ Below w.heap.size w wd) := hid (by rw [ed]; exact ⟨H1.out.1.keep (Below.refl _ _).drew, H1.out.2.drew⟩)
  have HS : Hid (LgM wd N g ep am cm l v ps) := hid HD.out.1
  refine wp_region_G (S := fun ww => LgM ww N g ep am cm l v ps) (ex := []) (by kernel_rfl) ?_
  try (change wpAnyG _ _ _ _ _ _ _ _ _ (World.drew _))
  try rw [← ed]
  clear ed
  refine wpAnyG_take (i := 0) (v := ?v401) rfl (by kernel_rfl) (fun _ _ _ h => h) (Or.inl ⟨by rfl, ?hy401⟩) HS.out ?rest401
  case hy401 => (intro ww _; go_simp; try with_reducible rfl)
  go_simp
  refine wpAnyG_take (i := 1) (v := ?v402) rfl (by kernel_rfl) (fun _ _ _ h => h) (Or.inl ⟨by rfl, ?hy402⟩) HS.out ?rest402
  case hy402 => (intro ww _; go_simp; try with_reducible rfl)
  go_simp
  refine wpAnyG_take (i := 2) (v := ?v403) rfl (by kernel_rfl) (fun _ _ _ h => h) (Or.inl ⟨by rfl, ?hy403⟩) HS.out ?rest403
  case hy403 => (intro ww _; go_simp; try with_reducible rfl)
  go_simp
  refine wpAnyG_take (i := 3) (v := ?v404) rfl (by kernel_rfl) (fun _ _ _ h => h) (Or.inl ⟨by rfl, ?hy404⟩) HS.out ?rest404
  case hy404 => (intro ww _; go_simp; try with_reducible rfl)
  go_simp
  refine wpAnyG_take (i := 4) (v := ?v405) rfl (by kernel_rfl) (fun _ _ _ h => h) (Or.inl ⟨by rfl, ?hy405⟩) HS.out ?rest405
  case hy405 => (intro ww hS; obtain ⟨z0, z8, z9⟩ := HZ.out _ hS; have zv := hS.at_.c2; go_simp; try with_reducible rfl)
  go_simp
  refine wpAnyG_take (i := 5) (v := ?v406) rfl (by kernel_rfl) (fun _ _ _ h => h) (Or.inl ⟨by rfl, ?hy406⟩) HS.out ?rest406
  case hy406 => (intro ww _; go_simp; try with_reducible rfl)
  go_simp
  refine wpAnyG_take (i := 6) (v := ?v407) rfl (by kernel_rfl) (fun _ _ _ h => h) (Or.inl ⟨by rfl, ?hy407⟩) HS.out ?rest407
  case hy407 => (intro ww _; go_simp; try with_reducible rfl)
  go_simp
  refine wpAnyG_take (i := 7) (v := ?v408) rfl (by kernel_rfl) (fun _ _ _ h => h) (Or.inl ⟨by rfl, ?hy408⟩) HS.out ?rest408
  case hy408 => (intro ww _; go_simp; try with_reducible rfl)
  go_simp
  refine wpAnyG_take (i := 8) (v := undef) rfl (by kernel_rfl) (fun _ _ _ h => h) (Or.inr ⟨by rfl, rfl⟩) HS.out ?rest409
  go_simp
  refine wpAnyG_take (i := 9) (v := undef) rfl (by kernel_rfl) (fun _ _ _ h => h) (Or.inr ⟨by rfl, rfl⟩) HS.out ?rest410
  go_simp
  refine wpAnyG_take (i := 10) (v := undef) rfl (by kernel_rfl) (fun _ _ _ h => h) (Or.inr ⟨by rfl, rfl⟩) HS.out ?rest411
  go_simp
  refine wpAnyG_take (i := 11) (v := undef) rfl (by kernel_rfl) (fun _ _ _ h => h) (Or.inr ⟨by rfl, rfl⟩) HS.out ?rest412
  go_simp
  refine wpAnyG_take (i := 12) (v := undef) rfl (by kernel_rfl) (fun _ _ _ h => h) (Or.inr ⟨by rfl, rfl⟩) HS.out ?rest413
  go_simp
  refine wpAnyG_take (i := 13) (v := undef) rfl (by kernel_rfl) (fun _ _ _ h => h) (Or.inr ⟨by rfl, rfl⟩) HS.out ?rest414
  go_simp
  refine wpAnyG_take (i := 14) (v := undef) rfl (by kernel_rfl) (fun _ _ _ h => h) (Or.inr ⟨by rfl, rfl⟩) HS.out ?rest415
  go_simp
  refine wpAnyG_take (i := 15) (v := undef) rfl (by kernel_rfl) (fun _ _ _ h => h) (Or.inr ⟨by rfl, rfl⟩) HS.out ?rest416
  go_simp
  refine wpAnyG_take (i := 16) (v := undef) rfl (by kernel_rfl) (fun _ _ _ h => h) (Or.inr ⟨by rfl, rfl⟩) HS.out ?rest417
  go_simp
  refine wpAnyG_take (i := 17) (v := undef) rfl (by kernel_rfl) (fun _ _ _ h => h) (Or.inr ⟨by rfl, rfl⟩) HS.out ?rest418
  go_simp
  refine wpAnyG_take (i := 18) (v := ?v419) rfl (by kernel_rfl) (fun _ _ _ h => h) (Or.inl ⟨by rfl, ?hy419⟩) HS.out ?rest419
  case hy419 => (intro ww _; go_simp; try with_reducible rfl)
  go_simp
  refine wpAnyG_done (by kernel_rfl) ?_ _
  go_simp
  clear HS
  go_wp2_with (first
    | (refine wl_load_at rfl 76 _ rfl g (3 + i * 43) rfl (nowC p) (HD.out.1.at_.now33 HI.out) _ Try.underlying76 rfl (by rw [HNow.out]; kernel_rfl) ?_)
    | (go_at_call 66; go_must (refine (HC.out _ HD.out.1.at_).mono ?_); rintro e w2 ⟨a2, k2, rfl, hp2, hN2, hb2⟩; have H2 : Hid (LgM w2 N g ep am cm l v ps ∧ Below w.heap.size w w2 ∧ PairsIn w2 a2 c.2.2.2 ∧ (∀ x, a2 = some x → w.heap.size ≤ x.block)) := hid ⟨HD.out.1.keep hb2, HD.out.2.trans (hb2.mono HD.out.2.size), hp2, fun x hx => Nat.le_trans HD.out.2.size (hN2 x hx)⟩; clear hp2 hN2 hb2)
    | (have := H2; refine wl_store_blk rfl 46 _ _ rfl g (3 + i * 43 + 33) rfl (ctC c (.slice a2 c.2.2.2.length k2)).toArray rfl (lgC ep (.slice am l.length cm) v ps) 81 H2.out.1.at_.blk (by rw [HSl.out.1]; have := HSl.out.2; simp [ctC]; omega) (by kernel_rfl) (by simp [ctC, Value.oneCell']) ?_; intro w3 Hz; go_must (have H3 : Hid (LgM w3 N g ep am cm l v (ps.set i { p with ct := (c, .slice a2 c.2.2.2.length k2) }) ∧ But g w w3) := hid (by have hh := H2.out.1.putct HI.out c a2 k2 H2.out.2.2.1 (fun x hx => Nat.le_trans HSz.out (H2.out.2.2.2 x hx)) Hz.out; exact ⟨hh.1, (But.of H2.out.2.1).trans hh.2⟩)); clear Hz))
  have HI3 : Hid ((ps.set i { p with ct := (c, .slice a2 c.2.2.2.length k2) })[i]? = some { p with ct := (c, .slice a2 c.2.2.2.length k2) }) := hid (set_get _ HI.out)
  have HS : Hid (SlA w3.drew g ep am cm l v (ps.set i { p with ct := (c, .slice a2 c.2.2.2.length k2) })) := hid (H3.out.1.at_.keep (Below.refl _ _).drew)
  refine wp_region_G (S := fun ww => SlA ww g ep am cm l v (ps.set i { p with ct := (c, .slice a2 c.2.2.2.length k2) })) (ex := []) (by kernel_rfl) ?_
  try (change wpAnyG _ _ _ _ _ _ _ _ _ (World.drew _))
  refine wpAnyG_take (i := 0) (v := ?v1) rfl (by kernel_rfl) (fun _ _ _ h => h) (Or.inl ⟨by rfl, ?hy1⟩) HS.out ?rest1
  case hy1 => (intro ww _; go_simp; try with_reducible rfl)
  go_simp
  refine wpAnyG_take (i := 1) (v := ?v2) rfl (by kernel_rfl) (fun _ _ _ h => h) (Or.inl ⟨by rfl, ?hy2⟩) HS.out ?rest2
  case hy2 => (intro ww _; go_simp; try with_reducible rfl)
  go_simp
  refine wpAnyG_take (i := 2) (v := ?v3) rfl (by kernel_rfl) (fun _ _ _ h => h) (Or.inl ⟨by rfl, ?hy3⟩) HS.out ?rest3
  case hy3 => (intro ww _; go_simp; try with_reducible rfl)
  go_simp
  refine wpAnyG_take (i := 3) (v := ?v4) rfl (by kernel_rfl) (fun _ _ _ h => h) (Or.inl ⟨by rfl, ?hy4⟩) HS.out ?rest4
  case hy4 => (intro ww hS; have y9 := don_of hS HI3.out; go_simp; try with_reducible rfl)
  go_simp
  refine wpAnyG_take (i := 4) (v := ?v5) rfl (by kernel_rfl) (fun _ _ _ h => h) (Or.inl ⟨by rfl, ?hy5⟩) HS.out ?rest5
  case hy5 => (intro ww _; go_simp; try with_reducible rfl)
  go_simp
  refine wpAnyG_take (i := 5) (v := ?v6) rfl (by kernel_rfl) (fun _ _ _ h => h) (Or.inl ⟨by rfl, ?hy6⟩) HS.out ?rest6
  case hy6 => (intro ww _; go_simp; try with_reducible rfl)
  go_simp
  refine wpAnyG_take (i := 6) (v := ?v7) rfl (by kernel_rfl) (fun _ _ _ h => h) (Or.inl ⟨by rfl, ?hy7⟩) HS.out ?rest7
  case hy7 => (intro ww _; go_simp; try with_reducible rfl)
  go_simp
  refine wpAnyG_take (i := 7) (v := ?v8) rfl (by kernel_rfl) (fun _ _ _ h => h) (Or.inl ⟨by rfl, ?hy8⟩) HS.out ?rest8
  case hy8 => (intro ww _; go_simp; try with_reducible rfl)
  go_simp
  refine wpAnyG_take (i := 8) (v := ?v9) rfl (by kernel_rfl) (fun _ _ _ h => h) (Or.inl ⟨by rfl, ?hy9⟩) HS.out ?rest9
  case hy9 => (intro ww _; go_simp; try with_reducible rfl)
  go_simp
  refine wpAnyG_take (i := 9) (v := ?v10) rfl (by kernel_rfl) (fun _ _ _ h => h) (Or.inl ⟨by rfl, ?hy10⟩) HS.out ?rest10
  case hy10 => (intro ww _; go_simp; try with_reducible rfl)
  go_simp
  refine wpAnyG_take (i := 10) (v := ?v11) rfl (by kernel_rfl) (fun _ _ _ h => h) (Or.inl ⟨by rfl, ?hy11⟩) HS.out ?rest11
  case hy11 => (intro ww _; go_simp; try with_reducible rfl)
  go_simp
  refine wpAnyG_take (i := 11) (v := .agg (sC p.com).toArray) rfl (by kernel_rfl) (fun _ _ _ h => h) (yieldsIf_load_mid (by rfl) 74 _ rfl g (3 + i * 43 + 17) rfl (sC p.com) _ (fun _ hS => SlA.com16 (p := { p with ct := (c, .slice a2 c.2.2.2.length k2) }) hS HI3.out) Try.underlying74 rfl (by rw [HLs.out]; kernel_rfl)) HS.out ?rest99
  go_simp
  refine wpAnyG_take (i := 12) (v := ?v12) rfl (by kernel_rfl) (fun _ _ _ h => h) (Or.inl ⟨by rfl, ?hy12⟩) HS.out ?rest12
  case hy12 => (intro ww _; go_simp; try with_reducible rfl)
  go_simp
  refine wpAnyG_take (i := 13) (v := ?v13) rfl (by kernel_rfl) (fun _ _ _ h => h) (Or.inl ⟨by rfl, ?hy13⟩) HS.out ?rest13
  case hy13 => (intro ww _; go_simp; try with_reducible rfl)
  go_simp
  refine wpAnyG_take (i := 14) (v := ?v14) rfl (by kernel_rfl) (fun _ _ _ h => h) (Or.inl ⟨by rfl, ?hy14⟩) HS.out ?rest14
  case hy14 => (intro ww _; go_simp; try with_reducible rfl)
  go_simp
  refine wpAnyG_take (i := 15) (v := ?v15) rfl (by kernel_rfl) (fun _ _ _ h => h) (Or.inl ⟨by rfl, ?hy15⟩) HS.out ?rest15
  case hy15 => (intro ww _; go_simp; try with_reducible rfl)
  go_simp
  refine wpAnyG_take (i := 16) (v := ?v16) rfl (by kernel_rfl) (fun _ _ _ h => h) (Or.inl ⟨by rfl, ?hy16⟩) HS.out ?rest16
  case hy16 => (intro ww hS; have y0 := pro_of hS HI3.out; go_simp; try with_reducible rfl)
  go_simp
  refine wpAnyG_all (rs := [17]) (by kernel_rfl) (by simp) ?_
  intro i hi
  obtain rfl := List.mem_singleton.1 hi
  clear hi
  refine wpOp_s rfl (by rfl) (fun K hK => ?_)
  go_simp
  refine (HQ.out _ _ HS.out).mono ?_
  rintro e w5 ⟨rfl, hb5⟩
  have H5 : Hid (LgM w5 N g ep am cm l v (ps.set i { p with ct := (c, .slice a2 c.2.2.2.length k2) }) ∧ But g w w5) := hid ⟨H3.out.1.keep ((Below.refl _ _).drew.trans hb5), H3.out.2.trans (But.of ((Below.refl _ _).drew.trans hb5))⟩
  have HS5 : Hid (SlA w5 g ep am cm l v (ps.set i { p with ct := (c, .slice a2 c.2.2.2.length k2) })) := hid H5.out.1.at_
  clear hb5
  refine hK _ _ ⟨fun _ => HS5.out, ?_⟩
  clear hK K
  go_simp
  refine wpAnyG_take (i := 18) (v := ?v17) rfl (by kernel_rfl) (fun _ _ _ h => h) (Or.inl ⟨by rfl, ?hy17⟩) HS5.out ?rest17
  case hy17 => (intro ww _; go_simp; try with_reducible rfl)
  go_simp
  refine wpAnyG_done (by kernel_rfl) ?_ _
  go_simp
  have y0 : w5.cell? ⟨g, 3 + i * 43, none⟩ = some (.string p.pro) := pro_of (p := { p with ct := (c, .slice a2 c.2.2.2.length k2) }) H5.out.1.at_ HI3.out
  have HLen : Hid ((lgC ep (.slice am l.length cm) v (ps.set i { p with ct := (c, .slice a2 c.2.2.2.length k2) })).length = 175) := hid (by rw [lgC]; simp [flat_len43 H5.out.1.at_.ok, H5.out.1.at_.four])
  go_wp2_with (first
    | (refine wl_storeV rfl 9 _ _ rfl g (3 + i * 43 + 42) rfl (.string p.pro) rfl rfl rfl (lgC ep (.slice am l.length cm) v (ps.set i { p with ct := (c, .slice a2 c.2.2.2.length k2) })) 81 H5.out.1.at_.blk (by rw [HLen.out]; have := HSl.out.2; omega) (by kernel_rfl) ?_; intro w7 Hz; have H7 := hid (H5.out.1.putdon HI3.out p.pro Hz.out); clear Hz))
  first | go_end0 | refine bodyPost_ret (results_none rfl _ _ _) rfl ?_
  have hh := H7.out
  exact ⟨rfl, { p with ct := (c, .slice a2 c.2.2.2.length k2), don := p.pro }, by rw [List.set_set] at hh; exact hh.1, rfl, H5.out.2.trans hh.2, fun _ _ => .inr (fresh_ct H2.out.2.2.2)⟩
set_option maxRecDepth 100000 in
set_option maxHeartbeats 3200000 in
theorem ssettle_none_few (N g : Nat) (ep : Int) (am : Option Addr) (cm : Nat) (l : List Int) (v : Int) (ps : List Pl) (i : Nat) (p : Pl) (w : World) (h : LgM w N g ep am cm l v ps) (hl : 0 < l.length) (hlm : l.length ≤ 1000) (he : 0 ≤ ep ∧ ep ≤ 60) (_hv : 0 ≤ v ∧ v ≤ 15) (hi : ps[i]? = some p) (_hsz : p.pro.size ≤ 64) (hp : isPrep l.length p.pp = true) (hc : p.ct.1.2.2.2.length = 0) (hd : p.don.size = 0) (hq : quoOk l.length p.com p.pro = false) :
    Calls Try.prog 48 #[.pointer (some ⟨g, 0, none⟩), .int .i64 (4 * ep + 1 + (i : Int))] w fun e w' => e = .returned (.tuple #[]) ∧ SetPost w w' N g ep am cm l v ps i { p.pp with ct := (certP ep v (4 * ep + 1 + (i : Int)) p.pp), don := p.don } := by
  have hi4 : i < 4 := by have := (List.getElem?_eq_some_iff.1 hi).1; rw [h.at_.four] at this; exact this
  have HP := hid (sprep_any g ep am cm l v ps i p w h.at_ hl hlm he hi)
  rw [hp] at HP
  have HA : Hid (∀ (u : World) (qs : List Pl), SlA u g ep am cm l v qs → Calls Try.prog 42 #[.pointer (some ⟨g, 0, none⟩), .int .i64 (4 * ep + 1 + (i : Int))] u fun e w' => e = .returned (.pointer (some ⟨g, 3 + i * 43, none⟩)) ∧ w' = u) := hid (fun u qs hu => sat_yes g ep am cm l v qs i u hu hl he hi4)
  have HQ : Hid (∀ (u : World) (qs : List Pl), SlA u g ep am cm l v qs → Calls Try.prog 52 #[.pointer (some ⟨g, 0, none⟩), .agg (sC p.com).toArray, .string p.pro] u fun e w' => e = .returned (.bool (quoOk l.length p.com p.pro)) ∧ Below u.heap.size u w') := hid (fun u qs hu => squo_any g ep am cm l v qs p.com (h.at_.ok p (List.mem_of_getElem? hi)).com p.pro u hu hlm)
  rw [hq] at HQ
  obtain ⟨c, ec⟩ : ∃ c, c = certP ep v (4 * ep + 1 + (i : Int)) p.pp := ⟨_, rfl⟩
  have HC : Hid (∀ u : World, SlA u g ep am cm l v ps → Calls Try.prog 66 #[.pointer (some ⟨g, 0, none⟩), .int .i64 (4 * ep + 1 + (i : Int)), .agg (nowC p).toArray] u fun e w' => ∃ a k, e = .returned (.agg (ctC c (.slice a c.2.2.2.length k)).toArray) ∧ PairsIn w' a c.2.2.2 ∧ (∀ x, a = some x → u.heap.size ≤ x.block) ∧ Below u.heap.size u w') := hid (fun u hu => by rw [ec]; exact scertify_any g ep am cm l v ps p (h.at_.ok p (List.mem_of_getElem? hi)) _hsz (4 * ep + 1 + (i : Int)) (by omega) u hu)
  rw [← ec]
  have HNow : Hid ((nowC p).length = 33) := hid (nowC_len (h.at_.ok p (List.mem_of_getElem? hi)))
  have HLs : Hid ((sC p.com).length = 16) := hid (by rw [sC_len]; exact (h.at_.ok p (List.mem_of_getElem? hi)).com)
  have HL := hid h
  have HSz : Hid (N ≤ w.heap.size) := hid h.sz
  have HI := hid hi
  have HSl : Hid ((lgC ep (.slice am l.length cm) v ps).length = 175 ∧ i < 4) := hid ⟨by rw [lgC]; simp [flat_len43 h.at_.ok, h.at_.four], hi4⟩
  obtain ⟨ac, kc, ecv, _, _⟩ := h.rd p (List.mem_of_getElem? hi)
  have HZ : Hid (∀ u, LgM u N g ep am cm l v ps → u.cell? ⟨g, 3 + i * 43 + 33, none⟩ = some (.int .i64 p.ct.1.1) ∧ u.cell? ⟨g, 3 + i * 43 + 33 + 8, none⟩ = some (.slice ac p.ct.1.2.2.2.length kc) ∧ u.cell? ⟨g, 3 + i * 43 + 41, none⟩ = some (.slice ac p.ct.1.2.2.2.length kc)) := hid (fun u hu => by
    have hok := hu.at_.ok p (List.mem_of_getElem? hi)
    have e8 := hu.at_.at i p (33 + 8) _ hi (by omega) (plC_ct hok 8 _ (by rw [ecv]; rfl))
    exact ⟨hu.at_.at i p 33 _ hi (by omega) (plC_ct hok 0 _ rfl), by rw [Nat.add_assoc (3 + i * 43)]; exact e8, e8⟩)
  have hn0 : ((p.ct.1.2.2.2.length : Int) == 0) = true := by rw [hc]; rfl
  have hn1 : (p.ct.1.2.2.2.length == 0) = true := by rw [hc]; rfl
  have hds : p.don.toList.isEmpty = true := toList_nil hd
  generalize hcl : p.ct.1.2.2.2.length = CL at HZ hn0 hn1
  generalize 4 * ep + 1 + (i : Int) = s at HP HA HC ⊢
  clear h hl hlm he _hv hi _hsz hp hi4 hc hd hq ec ecv hcl
  go_enter Try.func48, Try.ntmps48
  go_wp2_with (first
    | (go_at_call 29; go_must (refine HP.out.mono ?_); rintro e w1 ⟨rfl, hb1⟩; have H1 : Hid (LgM w1 N g ep am cm l v ps ∧ Below w.heap.size w w1) := hid ⟨HL.out.keep hb1, hb1⟩; clear hb1)
    | (go_at_call 42; go_must (refine (HA.out _ _ H1.out.1.at_).mono ?_); rintro e wq ⟨rfl, hwq⟩; replace hwq := hwq.symm; subst hwq))
  obtain ⟨wd, ed⟩ : ∃ u, u = w1.drew := ⟨_, rfl⟩
  have HD : Hid (LgM wd N g ep am cm l v ps ∧ Below w.heap.size w wd) := hid (by rw [ed]; exact ⟨H1.out.1.keep (Below.refl _ _).drew, H1.out.2.drew⟩)
  have HS : Hid (LgM wd N g ep am cm l v ps) := hid HD.out.1
  refine wp_region_G (S := fun ww => LgM ww N g ep am cm l v ps) (ex := []) (by kernel_rfl) ?_
  try (change wpAnyG _ _ _ _ _ _ _ _ _ (World.drew _))
  try rw [← ed]
  clear ed
  refine wpAnyG_take (i := 0) (v := ?v401) rfl (by kernel_rfl) (fun _ _ _ h => h) (Or.inl ⟨by rfl, ?hy401⟩) HS.out ?rest401
  case hy401 => (intro ww _; go_simp; try with_reducible rfl)
  go_simp
  refine wpAnyG_take (i := 1) (v := ?v402) rfl (by kernel_rfl) (fun _ _ _ h => h) (Or.inl ⟨by rfl, ?hy402⟩) HS.out ?rest402
  case hy402 => (intro ww _; go_simp; try with_reducible rfl)
  go_simp
  refine wpAnyG_take (i := 2) (v := ?v403) rfl (by kernel_rfl) (fun _ _ _ h => h) (Or.inl ⟨by rfl, ?hy403⟩) HS.out ?rest403
  case hy403 => (intro ww _; go_simp; try with_reducible rfl)
  go_simp
  refine wpAnyG_take (i := 3) (v := ?v404) rfl (by kernel_rfl) (fun _ _ _ h => h) (Or.inl ⟨by rfl, ?hy404⟩) HS.out ?rest404
  case hy404 => (intro ww _; go_simp; try with_reducible rfl)
  go_simp
  refine wpAnyG_take (i := 4) (v := ?v405) rfl (by kernel_rfl) (fun _ _ _ h => h) (Or.inl ⟨by rfl, ?hy405⟩) HS.out ?rest405
  case hy405 => (intro ww hS; obtain ⟨z0, z8, z9⟩ := HZ.out _ hS; have zv := hS.at_.c2; go_simp; try with_reducible rfl)
  go_simp
  refine wpAnyG_take (i := 5) (v := ?v406) rfl (by kernel_rfl) (fun _ _ _ h => h) (Or.inl ⟨by rfl, ?hy406⟩) HS.out ?rest406
  case hy406 => (intro ww _; go_simp; try with_reducible rfl)
  go_simp
  refine wpAnyG_take (i := 6) (v := ?v407) rfl (by kernel_rfl) (fun _ _ _ h => h) (Or.inl ⟨by rfl, ?hy407⟩) HS.out ?rest407
  case hy407 => (intro ww _; go_simp; try with_reducible rfl)
  go_simp
  refine wpAnyG_take (i := 7) (v := ?v408) rfl (by kernel_rfl) (fun _ _ _ h => h) (Or.inl ⟨by rfl, ?hy408⟩) HS.out ?rest408
  case hy408 => (intro ww _; go_simp; try with_reducible rfl)
  go_simp
  refine wpAnyG_take (i := 8) (v := undef) rfl (by kernel_rfl) (fun _ _ _ h => h) (Or.inr ⟨by rfl, rfl⟩) HS.out ?rest409
  go_simp
  refine wpAnyG_take (i := 9) (v := undef) rfl (by kernel_rfl) (fun _ _ _ h => h) (Or.inr ⟨by rfl, rfl⟩) HS.out ?rest410
  go_simp
  refine wpAnyG_take (i := 10) (v := undef) rfl (by kernel_rfl) (fun _ _ _ h => h) (Or.inr ⟨by rfl, rfl⟩) HS.out ?rest411
  go_simp
  refine wpAnyG_take (i := 11) (v := undef) rfl (by kernel_rfl) (fun _ _ _ h => h) (Or.inr ⟨by rfl, rfl⟩) HS.out ?rest412
  go_simp
  refine wpAnyG_take (i := 12) (v := undef) rfl (by kernel_rfl) (fun _ _ _ h => h) (Or.inr ⟨by rfl, rfl⟩) HS.out ?rest413
  go_simp
  refine wpAnyG_take (i := 13) (v := undef) rfl (by kernel_rfl) (fun _ _ _ h => h) (Or.inr ⟨by rfl, rfl⟩) HS.out ?rest414
  go_simp
  refine wpAnyG_take (i := 14) (v := undef) rfl (by kernel_rfl) (fun _ _ _ h => h) (Or.inr ⟨by rfl, rfl⟩) HS.out ?rest415
  go_simp
  refine wpAnyG_take (i := 15) (v := undef) rfl (by kernel_rfl) (fun _ _ _ h => h) (Or.inr ⟨by rfl, rfl⟩) HS.out ?rest416
  go_simp
  refine wpAnyG_take (i := 16) (v := undef) rfl (by kernel_rfl) (fun _ _ _ h => h) (Or.inr ⟨by rfl, rfl⟩) HS.out ?rest417
  go_simp
  refine wpAnyG_take (i := 17) (v := undef) rfl (by kernel_rfl) (fun _ _ _ h => h) (Or.inr ⟨by rfl, rfl⟩) HS.out ?rest418
  go_simp
  refine wpAnyG_take (i := 18) (v := ?v419) rfl (by kernel_rfl) (fun _ _ _ h => h) (Or.inl ⟨by rfl, ?hy419⟩) HS.out ?rest419
  case hy419 => (intro ww _; go_simp; try with_reducible rfl)
  go_simp
  refine wpAnyG_done (by kernel_rfl) ?_ _
  go_simp
  clear HS
  go_wp2_with (first
    | (refine wl_load_at rfl 76 _ rfl g (3 + i * 43) rfl (nowC p) (HD.out.1.at_.now33 HI.out) _ Try.underlying76 rfl (by rw [HNow.out]; kernel_rfl) ?_)
    | (go_at_call 66; go_must (refine (HC.out _ HD.out.1.at_).mono ?_); rintro e w2 ⟨a2, k2, rfl, hp2, hN2, hb2⟩; have H2 : Hid (LgM w2 N g ep am cm l v ps ∧ Below w.heap.size w w2 ∧ PairsIn w2 a2 c.2.2.2 ∧ (∀ x, a2 = some x → w.heap.size ≤ x.block)) := hid ⟨HD.out.1.keep hb2, HD.out.2.trans (hb2.mono HD.out.2.size), hp2, fun x hx => Nat.le_trans HD.out.2.size (hN2 x hx)⟩; clear hp2 hN2 hb2)
    | (have := H2; refine wl_store_blk rfl 46 _ _ rfl g (3 + i * 43 + 33) rfl (ctC c (.slice a2 c.2.2.2.length k2)).toArray rfl (lgC ep (.slice am l.length cm) v ps) 81 H2.out.1.at_.blk (by rw [HSl.out.1]; have := HSl.out.2; simp [ctC]; omega) (by kernel_rfl) (by simp [ctC, Value.oneCell']) ?_; intro w3 Hz; go_must (have H3 : Hid (LgM w3 N g ep am cm l v (ps.set i { p with ct := (c, .slice a2 c.2.2.2.length k2) }) ∧ But g w w3) := hid (by have hh := H2.out.1.putct HI.out c a2 k2 H2.out.2.2.1 (fun x hx => Nat.le_trans HSz.out (H2.out.2.2.2 x hx)) Hz.out; exact ⟨hh.1, (But.of H2.out.2.1).trans hh.2⟩)); clear Hz))
  have HI3 : Hid ((ps.set i { p with ct := (c, .slice a2 c.2.2.2.length k2) })[i]? = some { p with ct := (c, .slice a2 c.2.2.2.length k2) }) := hid (set_get _ HI.out)
  have HS : Hid (SlA w3.drew g ep am cm l v (ps.set i { p with ct := (c, .slice a2 c.2.2.2.length k2) })) := hid (H3.out.1.at_.keep (Below.refl _ _).drew)
  refine wp_region_G (S := fun ww => SlA ww g ep am cm l v (ps.set i { p with ct := (c, .slice a2 c.2.2.2.length k2) })) (ex := []) (by kernel_rfl) ?_
  try (change wpAnyG _ _ _ _ _ _ _ _ _ (World.drew _))
  refine wpAnyG_take (i := 0) (v := ?v1) rfl (by kernel_rfl) (fun _ _ _ h => h) (Or.inl ⟨by rfl, ?hy1⟩) HS.out ?rest1
  case hy1 => (intro ww _; go_simp; try with_reducible rfl)
  go_simp
  refine wpAnyG_take (i := 1) (v := ?v2) rfl (by kernel_rfl) (fun _ _ _ h => h) (Or.inl ⟨by rfl, ?hy2⟩) HS.out ?rest2
  case hy2 => (intro ww _; go_simp; try with_reducible rfl)
  go_simp
  refine wpAnyG_take (i := 2) (v := ?v3) rfl (by kernel_rfl) (fun _ _ _ h => h) (Or.inl ⟨by rfl, ?hy3⟩) HS.out ?rest3
  case hy3 => (intro ww _; go_simp; try with_reducible rfl)
  go_simp
  refine wpAnyG_take (i := 3) (v := ?v4) rfl (by kernel_rfl) (fun _ _ _ h => h) (Or.inl ⟨by rfl, ?hy4⟩) HS.out ?rest4
  case hy4 => (intro ww hS; have y9 := don_of hS HI3.out; go_simp; try with_reducible rfl)
  go_simp
  refine wpAnyG_take (i := 4) (v := ?v5) rfl (by kernel_rfl) (fun _ _ _ h => h) (Or.inl ⟨by rfl, ?hy5⟩) HS.out ?rest5
  case hy5 => (intro ww _; go_simp; try with_reducible rfl)
  go_simp
  refine wpAnyG_take (i := 5) (v := ?v6) rfl (by kernel_rfl) (fun _ _ _ h => h) (Or.inl ⟨by rfl, ?hy6⟩) HS.out ?rest6
  case hy6 => (intro ww _; go_simp; try with_reducible rfl)
  go_simp
  refine wpAnyG_take (i := 6) (v := ?v7) rfl (by kernel_rfl) (fun _ _ _ h => h) (Or.inl ⟨by rfl, ?hy7⟩) HS.out ?rest7
  case hy7 => (intro ww _; go_simp; try with_reducible rfl)
  go_simp
  refine wpAnyG_take (i := 7) (v := ?v8) rfl (by kernel_rfl) (fun _ _ _ h => h) (Or.inl ⟨by rfl, ?hy8⟩) HS.out ?rest8
  case hy8 => (intro ww _; go_simp; try with_reducible rfl)
  go_simp
  refine wpAnyG_take (i := 8) (v := ?v9) rfl (by kernel_rfl) (fun _ _ _ h => h) (Or.inl ⟨by rfl, ?hy9⟩) HS.out ?rest9
  case hy9 => (intro ww _; go_simp; try with_reducible rfl)
  go_simp
  refine wpAnyG_take (i := 9) (v := ?v10) rfl (by kernel_rfl) (fun _ _ _ h => h) (Or.inl ⟨by rfl, ?hy10⟩) HS.out ?rest10
  case hy10 => (intro ww _; go_simp; try with_reducible rfl)
  go_simp
  refine wpAnyG_take (i := 10) (v := ?v11) rfl (by kernel_rfl) (fun _ _ _ h => h) (Or.inl ⟨by rfl, ?hy11⟩) HS.out ?rest11
  case hy11 => (intro ww _; go_simp; try with_reducible rfl)
  go_simp
  refine wpAnyG_take (i := 11) (v := .agg (sC p.com).toArray) rfl (by kernel_rfl) (fun _ _ _ h => h) (yieldsIf_load_mid (by rfl) 74 _ rfl g (3 + i * 43 + 17) rfl (sC p.com) _ (fun _ hS => SlA.com16 (p := { p with ct := (c, .slice a2 c.2.2.2.length k2) }) hS HI3.out) Try.underlying74 rfl (by rw [HLs.out]; kernel_rfl)) HS.out ?rest99
  go_simp
  refine wpAnyG_take (i := 12) (v := ?v12) rfl (by kernel_rfl) (fun _ _ _ h => h) (Or.inl ⟨by rfl, ?hy12⟩) HS.out ?rest12
  case hy12 => (intro ww _; go_simp; try with_reducible rfl)
  go_simp
  refine wpAnyG_take (i := 13) (v := ?v13) rfl (by kernel_rfl) (fun _ _ _ h => h) (Or.inl ⟨by rfl, ?hy13⟩) HS.out ?rest13
  case hy13 => (intro ww _; go_simp; try with_reducible rfl)
  go_simp
  refine wpAnyG_take (i := 14) (v := ?v14) rfl (by kernel_rfl) (fun _ _ _ h => h) (Or.inl ⟨by rfl, ?hy14⟩) HS.out ?rest14
  case hy14 => (intro ww _; go_simp; try with_reducible rfl)
  go_simp
  refine wpAnyG_take (i := 15) (v := ?v15) rfl (by kernel_rfl) (fun _ _ _ h => h) (Or.inl ⟨by rfl, ?hy15⟩) HS.out ?rest15
  case hy15 => (intro ww _; go_simp; try with_reducible rfl)
  go_simp
  refine wpAnyG_take (i := 16) (v := ?v16) rfl (by kernel_rfl) (fun _ _ _ h => h) (Or.inl ⟨by rfl, ?hy16⟩) HS.out ?rest16
  case hy16 => (intro ww hS; have y0 := pro_of hS HI3.out; go_simp; try with_reducible rfl)
  go_simp
  refine wpAnyG_all (rs := [17]) (by kernel_rfl) (by simp) ?_
  intro i hi
  obtain rfl := List.mem_singleton.1 hi
  clear hi
  refine wpOp_s rfl (by rfl) (fun K hK => ?_)
  go_simp
  refine (HQ.out _ _ HS.out).mono ?_
  rintro e w5 ⟨rfl, hb5⟩
  have H5 : Hid (LgM w5 N g ep am cm l v (ps.set i { p with ct := (c, .slice a2 c.2.2.2.length k2) }) ∧ But g w w5) := hid ⟨H3.out.1.keep ((Below.refl _ _).drew.trans hb5), H3.out.2.trans (But.of ((Below.refl _ _).drew.trans hb5))⟩
  have HS5 : Hid (SlA w5 g ep am cm l v (ps.set i { p with ct := (c, .slice a2 c.2.2.2.length k2) })) := hid H5.out.1.at_
  clear hb5
  refine hK _ _ ⟨fun _ => HS5.out, ?_⟩
  clear hK K
  go_simp
  refine wpAnyG_take (i := 18) (v := ?v17) rfl (by kernel_rfl) (fun _ _ _ h => h) (Or.inl ⟨by rfl, ?hy17⟩) HS5.out ?rest17
  case hy17 => (intro ww _; go_simp; try with_reducible rfl)
  go_simp
  refine wpAnyG_done (by kernel_rfl) ?_ _
  go_simp
  go_wp2
  first | go_end0 | refine bodyPost_ret (results_none rfl _ _ _) rfl ?_
  exact ⟨rfl, { p with ct := (c, .slice a2 c.2.2.2.length k2) }, by rw [show ps.set i _ = ps.set i _ from rfl]; exact H5.out.1, rfl, H5.out.2, fun _ _ => .inr (fresh_ct H2.out.2.2.2)⟩
set_option maxRecDepth 100000 in
set_option maxHeartbeats 3200000 in
theorem ssettle_old_don (N g : Nat) (ep : Int) (am : Option Addr) (cm : Nat) (l : List Int) (v : Int) (ps : List Pl) (i : Nat) (p : Pl) (w : World) (h : LgM w N g ep am cm l v ps) (hl : 0 < l.length) (hlm : l.length ≤ 1000) (he : 0 ≤ ep ∧ ep ≤ 60) (_hv : 0 ≤ v ∧ v ≤ 15) (hi : ps[i]? = some p) (_hsz : p.pro.size ≤ 64) (hp : isPrep l.length p.pp = true) (hc : p.ct.1.2.2.2.length ≠ 0) (hw : p.ct.1.1 ≠ v) (hd : p.don.size ≠ 0) :
    Calls Try.prog 48 #[.pointer (some ⟨g, 0, none⟩), .int .i64 (4 * ep + 1 + (i : Int))] w fun e w' => e = .returned (.tuple #[]) ∧ SetPost w w' N g ep am cm l v ps i { p.pp with ct := (certP ep v (4 * ep + 1 + (i : Int)) p.pp), don := p.don } := by
  have hi4 : i < 4 := by have := (List.getElem?_eq_some_iff.1 hi).1; rw [h.at_.four] at this; exact this
  have HP := hid (sprep_any g ep am cm l v ps i p w h.at_ hl hlm he hi)
  rw [hp] at HP
  have HA : Hid (∀ (u : World) (qs : List Pl), SlA u g ep am cm l v qs → Calls Try.prog 42 #[.pointer (some ⟨g, 0, none⟩), .int .i64 (4 * ep + 1 + (i : Int))] u fun e w' => e = .returned (.pointer (some ⟨g, 3 + i * 43, none⟩)) ∧ w' = u) := hid (fun u qs hu => sat_yes g ep am cm l v qs i u hu hl he hi4)
  have HQ : Hid (∀ (u : World) (qs : List Pl), SlA u g ep am cm l v qs → Calls Try.prog 52 #[.pointer (some ⟨g, 0, none⟩), .agg (sC p.com).toArray, .string p.pro] u fun e w' => e = .returned (.bool (quoOk l.length p.com p.pro)) ∧ Below u.heap.size u w') := hid (fun u qs hu => squo_any g ep am cm l v qs p.com (h.at_.ok p (List.mem_of_getElem? hi)).com p.pro u hu hlm)
  obtain ⟨c, ec⟩ : ∃ c, c = certP ep v (4 * ep + 1 + (i : Int)) p.pp := ⟨_, rfl⟩
  have HC : Hid (∀ u : World, SlA u g ep am cm l v ps → Calls Try.prog 66 #[.pointer (some ⟨g, 0, none⟩), .int .i64 (4 * ep + 1 + (i : Int)), .agg (nowC p).toArray] u fun e w' => ∃ a k, e = .returned (.agg (ctC c (.slice a c.2.2.2.length k)).toArray) ∧ PairsIn w' a c.2.2.2 ∧ (∀ x, a = some x → u.heap.size ≤ x.block) ∧ Below u.heap.size u w') := hid (fun u hu => by rw [ec]; exact scertify_any g ep am cm l v ps p (h.at_.ok p (List.mem_of_getElem? hi)) _hsz (4 * ep + 1 + (i : Int)) (by omega) u hu)
  rw [← ec]
  have HNow : Hid ((nowC p).length = 33) := hid (nowC_len (h.at_.ok p (List.mem_of_getElem? hi)))
  have HLs : Hid ((sC p.com).length = 16) := hid (by rw [sC_len]; exact (h.at_.ok p (List.mem_of_getElem? hi)).com)
  have HL := hid h
  have HSz : Hid (N ≤ w.heap.size) := hid h.sz
  have HI := hid hi
  have HSl : Hid ((lgC ep (.slice am l.length cm) v ps).length = 175 ∧ i < 4) := hid ⟨by rw [lgC]; simp [flat_len43 h.at_.ok, h.at_.four], hi4⟩
  obtain ⟨ac, kc, ecv, _, _⟩ := h.rd p (List.mem_of_getElem? hi)
  have HZ : Hid (∀ u, LgM u N g ep am cm l v ps → u.cell? ⟨g, 3 + i * 43 + 33, none⟩ = some (.int .i64 p.ct.1.1) ∧ u.cell? ⟨g, 3 + i * 43 + 33 + 8, none⟩ = some (.slice ac p.ct.1.2.2.2.length kc) ∧ u.cell? ⟨g, 3 + i * 43 + 41, none⟩ = some (.slice ac p.ct.1.2.2.2.length kc)) := hid (fun u hu => by
    have hok := hu.at_.ok p (List.mem_of_getElem? hi)
    have e8 := hu.at_.at i p (33 + 8) _ hi (by omega) (plC_ct hok 8 _ (by rw [ecv]; rfl))
    exact ⟨hu.at_.at i p 33 _ hi (by omega) (plC_ct hok 0 _ rfl), by rw [Nat.add_assoc (3 + i * 43)]; exact e8, e8⟩)
  have hn0 : ((p.ct.1.2.2.2.length : Int) == 0) = false := beq_eq_false_iff_ne.2 (by omega)
  have hn1 : (p.ct.1.2.2.2.length == 0) = false := beq_eq_false_iff_ne.2 hc
  have hv1 : (p.ct.1.1 != v) = true := by simpa using hw
  have hv2 : (p.ct.1.1 == v) = false := by simpa using hw
  have hds : p.don.toList.isEmpty = false := toList_cons hd
  generalize hcl : p.ct.1.2.2.2.length = CL at HZ hn0 hn1
  generalize p.ct.1.1 = CV at HZ hv1 hv2
  generalize 4 * ep + 1 + (i : Int) = s at HP HA HC ⊢
  clear h hl hlm he _hv hi _hsz hp hi4 hc hw hd ec ecv hcl
  go_enter Try.func48, Try.ntmps48
  go_wp2_with (first
    | (go_at_call 29; go_must (refine HP.out.mono ?_); rintro e w1 ⟨rfl, hb1⟩; have H1 : Hid (LgM w1 N g ep am cm l v ps ∧ Below w.heap.size w w1) := hid ⟨HL.out.keep hb1, hb1⟩; clear hb1)
    | (go_at_call 42; go_must (refine (HA.out _ _ H1.out.1.at_).mono ?_); rintro e wq ⟨rfl, hwq⟩; replace hwq := hwq.symm; subst hwq))
  obtain ⟨wd, ed⟩ : ∃ u, u = w1.drew := ⟨_, rfl⟩
  have HD : Hid (LgM wd N g ep am cm l v ps ∧ Below w.heap.size w wd) := hid (by rw [ed]; exact ⟨H1.out.1.keep (Below.refl _ _).drew, H1.out.2.drew⟩)
  have HS : Hid (LgM wd N g ep am cm l v ps) := hid HD.out.1
  refine wp_region_G (S := fun ww => LgM ww N g ep am cm l v ps) (ex := []) (by kernel_rfl) ?_
  try (change wpAnyG _ _ _ _ _ _ _ _ _ (World.drew _))
  try rw [← ed]
  clear ed
  refine wpAnyG_take (i := 0) (v := ?v401) rfl (by kernel_rfl) (fun _ _ _ h => h) (Or.inl ⟨by rfl, ?hy401⟩) HS.out ?rest401
  case hy401 => (intro ww _; go_simp; try with_reducible rfl)
  go_simp
  refine wpAnyG_take (i := 1) (v := ?v402) rfl (by kernel_rfl) (fun _ _ _ h => h) (Or.inl ⟨by rfl, ?hy402⟩) HS.out ?rest402
  case hy402 => (intro ww _; go_simp; try with_reducible rfl)
  go_simp
  refine wpAnyG_take (i := 2) (v := ?v403) rfl (by kernel_rfl) (fun _ _ _ h => h) (Or.inl ⟨by rfl, ?hy403⟩) HS.out ?rest403
  case hy403 => (intro ww _; go_simp; try with_reducible rfl)
  go_simp
  refine wpAnyG_take (i := 3) (v := ?v404) rfl (by kernel_rfl) (fun _ _ _ h => h) (Or.inl ⟨by rfl, ?hy404⟩) HS.out ?rest404
  case hy404 => (intro ww _; go_simp; try with_reducible rfl)
  go_simp
  refine wpAnyG_take (i := 4) (v := ?v405) rfl (by kernel_rfl) (fun _ _ _ h => h) (Or.inl ⟨by rfl, ?hy405⟩) HS.out ?rest405
  case hy405 => (intro ww hS; obtain ⟨z0, z8, z9⟩ := HZ.out _ hS; have zv := hS.at_.c2; go_simp; try with_reducible rfl)
  go_simp
  refine wpAnyG_take (i := 5) (v := ?v406) rfl (by kernel_rfl) (fun _ _ _ h => h) (Or.inl ⟨by rfl, ?hy406⟩) HS.out ?rest406
  case hy406 => (intro ww _; go_simp; try with_reducible rfl)
  go_simp
  refine wpAnyG_take (i := 6) (v := ?v407) rfl (by kernel_rfl) (fun _ _ _ h => h) (Or.inl ⟨by rfl, ?hy407⟩) HS.out ?rest407
  case hy407 => (intro ww _; go_simp; try with_reducible rfl)
  go_simp
  refine wpAnyG_take (i := 7) (v := ?v408) rfl (by kernel_rfl) (fun _ _ _ h => h) (Or.inl ⟨by rfl, ?hy408⟩) HS.out ?rest408
  case hy408 => (intro ww _; go_simp; try with_reducible rfl)
  go_simp
  refine wpAnyG_take (i := 8) (v := ?v409) rfl (by kernel_rfl) (fun _ _ _ h => h) (Or.inl ⟨by rfl, ?hy409⟩) HS.out ?rest409
  case hy409 => (intro ww _; go_simp; try with_reducible rfl)
  go_simp
  refine wpAnyG_take (i := 9) (v := ?v410) rfl (by kernel_rfl) (fun _ _ _ h => h) (Or.inl ⟨by rfl, ?hy410⟩) HS.out ?rest410
  case hy410 => (intro ww _; go_simp; try with_reducible rfl)
  go_simp
  refine wpAnyG_take (i := 10) (v := ?v411) rfl (by kernel_rfl) (fun _ _ _ h => h) (Or.inl ⟨by rfl, ?hy411⟩) HS.out ?rest411
  case hy411 => (intro ww _; go_simp; try with_reducible rfl)
  go_simp
  refine wpAnyG_take (i := 11) (v := ?v412) rfl (by kernel_rfl) (fun _ _ _ h => h) (Or.inl ⟨by rfl, ?hy412⟩) HS.out ?rest412
  case hy412 => (intro ww _; go_simp; try with_reducible rfl)
  go_simp
  refine wpAnyG_take (i := 12) (v := ?v413) rfl (by kernel_rfl) (fun _ _ _ h => h) (Or.inl ⟨by rfl, ?hy413⟩) HS.out ?rest413
  case hy413 => (intro ww hS; obtain ⟨z0, z8, z9⟩ := HZ.out _ hS; have zv := hS.at_.c2; go_simp; try with_reducible rfl)
  go_simp
  refine wpAnyG_take (i := 13) (v := ?v414) rfl (by kernel_rfl) (fun _ _ _ h => h) (Or.inl ⟨by rfl, ?hy414⟩) HS.out ?rest414
  case hy414 => (intro ww _; go_simp; try with_reducible rfl)
  go_simp
  refine wpAnyG_take (i := 14) (v := ?v415) rfl (by kernel_rfl) (fun _ _ _ h => h) (Or.inl ⟨by rfl, ?hy415⟩) HS.out ?rest415
  case hy415 => (intro ww _; go_simp; try with_reducible rfl)
  go_simp
  refine wpAnyG_take (i := 15) (v := ?v416) rfl (by kernel_rfl) (fun _ _ _ h => h) (Or.inl ⟨by rfl, ?hy416⟩) HS.out ?rest416
  case hy416 => (intro ww _; go_simp; try with_reducible rfl)
  go_simp
  refine wpAnyG_take (i := 16) (v := ?v417) rfl (by kernel_rfl) (fun _ _ _ h => h) (Or.inl ⟨by rfl, ?hy417⟩) HS.out ?rest417
  case hy417 => (intro ww hS; obtain ⟨z0, z8, z9⟩ := HZ.out _ hS; have zv := hS.at_.c2; go_simp; try with_reducible rfl)
  go_simp
  refine wpAnyG_take (i := 17) (v := ?v418) rfl (by kernel_rfl) (fun _ _ _ h => h) (Or.inl ⟨by rfl, ?hy418⟩) HS.out ?rest418
  case hy418 => (intro ww _; go_simp; try with_reducible rfl)
  go_simp
  refine wpAnyG_take (i := 18) (v := ?v419) rfl (by kernel_rfl) (fun _ _ _ h => h) (Or.inl ⟨by rfl, ?hy419⟩) HS.out ?rest419
  case hy419 => (intro ww _; go_simp; try with_reducible rfl)
  go_simp
  refine wpAnyG_done (by kernel_rfl) ?_ _
  go_simp
  clear HS
  go_wp2_with (first
    | (refine wl_load_at rfl 76 _ rfl g (3 + i * 43) rfl (nowC p) (HD.out.1.at_.now33 HI.out) _ Try.underlying76 rfl (by rw [HNow.out]; kernel_rfl) ?_)
    | (go_at_call 66; go_must (refine (HC.out _ HD.out.1.at_).mono ?_); rintro e w2 ⟨a2, k2, rfl, hp2, hN2, hb2⟩; have H2 : Hid (LgM w2 N g ep am cm l v ps ∧ Below w.heap.size w w2 ∧ PairsIn w2 a2 c.2.2.2 ∧ (∀ x, a2 = some x → w.heap.size ≤ x.block)) := hid ⟨HD.out.1.keep hb2, HD.out.2.trans (hb2.mono HD.out.2.size), hp2, fun x hx => Nat.le_trans HD.out.2.size (hN2 x hx)⟩; clear hp2 hN2 hb2)
    | (have := H2; refine wl_store_blk rfl 46 _ _ rfl g (3 + i * 43 + 33) rfl (ctC c (.slice a2 c.2.2.2.length k2)).toArray rfl (lgC ep (.slice am l.length cm) v ps) 81 H2.out.1.at_.blk (by rw [HSl.out.1]; have := HSl.out.2; simp [ctC]; omega) (by kernel_rfl) (by simp [ctC, Value.oneCell']) ?_; intro w3 Hz; go_must (have H3 : Hid (LgM w3 N g ep am cm l v (ps.set i { p with ct := (c, .slice a2 c.2.2.2.length k2) }) ∧ But g w w3) := hid (by have hh := H2.out.1.putct HI.out c a2 k2 H2.out.2.2.1 (fun x hx => Nat.le_trans HSz.out (H2.out.2.2.2 x hx)) Hz.out; exact ⟨hh.1, (But.of H2.out.2.1).trans hh.2⟩)); clear Hz))
  have HI3 : Hid ((ps.set i { p with ct := (c, .slice a2 c.2.2.2.length k2) })[i]? = some { p with ct := (c, .slice a2 c.2.2.2.length k2) }) := hid (set_get _ HI.out)
  have HS : Hid (SlA w3.drew g ep am cm l v (ps.set i { p with ct := (c, .slice a2 c.2.2.2.length k2) })) := hid (H3.out.1.at_.keep (Below.refl _ _).drew)
  refine wp_region_G (S := fun ww => SlA ww g ep am cm l v (ps.set i { p with ct := (c, .slice a2 c.2.2.2.length k2) })) (ex := []) (by kernel_rfl) ?_
  try (change wpAnyG _ _ _ _ _ _ _ _ _ (World.drew _))
  refine wpAnyG_take (i := 0) (v := ?v1) rfl (by kernel_rfl) (fun _ _ _ h => h) (Or.inl ⟨by rfl, ?hy1⟩) HS.out ?rest1
  case hy1 => (intro ww _; go_simp; try with_reducible rfl)
  go_simp
  refine wpAnyG_take (i := 1) (v := ?v2) rfl (by kernel_rfl) (fun _ _ _ h => h) (Or.inl ⟨by rfl, ?hy2⟩) HS.out ?rest2
  case hy2 => (intro ww _; go_simp; try with_reducible rfl)
  go_simp
  refine wpAnyG_take (i := 2) (v := ?v3) rfl (by kernel_rfl) (fun _ _ _ h => h) (Or.inl ⟨by rfl, ?hy3⟩) HS.out ?rest3
  case hy3 => (intro ww _; go_simp; try with_reducible rfl)
  go_simp
  refine wpAnyG_take (i := 3) (v := ?v4) rfl (by kernel_rfl) (fun _ _ _ h => h) (Or.inl ⟨by rfl, ?hy4⟩) HS.out ?rest4
  case hy4 => (intro ww hS; have y9 := don_of hS HI3.out; go_simp; try with_reducible rfl)
  go_simp
  refine wpAnyG_take (i := 4) (v := ?v5) rfl (by kernel_rfl) (fun _ _ _ h => h) (Or.inl ⟨by rfl, ?hy5⟩) HS.out ?rest5
  case hy5 => (intro ww _; go_simp; try with_reducible rfl)
  go_simp
  refine wpAnyG_take (i := 5) (v := ?v6) rfl (by kernel_rfl) (fun _ _ _ h => h) (Or.inl ⟨by rfl, ?hy6⟩) HS.out ?rest6
  case hy6 => (intro ww _; go_simp; try with_reducible rfl)
  go_simp
  refine wpAnyG_take (i := 6) (v := undef) rfl (by kernel_rfl) (fun _ _ _ h => h) (Or.inr ⟨by rfl, rfl⟩) HS.out ?rest7
  go_simp
  refine wpAnyG_take (i := 7) (v := undef) rfl (by kernel_rfl) (fun _ _ _ h => h) (Or.inr ⟨by rfl, rfl⟩) HS.out ?rest8
  go_simp
  refine wpAnyG_take (i := 8) (v := undef) rfl (by kernel_rfl) (fun _ _ _ h => h) (Or.inr ⟨by rfl, rfl⟩) HS.out ?rest9
  go_simp
  refine wpAnyG_take (i := 9) (v := undef) rfl (by kernel_rfl) (fun _ _ _ h => h) (Or.inr ⟨by rfl, rfl⟩) HS.out ?rest10
  go_simp
  refine wpAnyG_take (i := 10) (v := undef) rfl (by kernel_rfl) (fun _ _ _ h => h) (Or.inr ⟨by rfl, rfl⟩) HS.out ?rest11
  go_simp
  refine wpAnyG_take (i := 11) (v := undef) rfl (by kernel_rfl) (fun _ _ _ h => h) (Or.inr ⟨by rfl, rfl⟩) HS.out ?rest12
  go_simp
  refine wpAnyG_take (i := 12) (v := undef) rfl (by kernel_rfl) (fun _ _ _ h => h) (Or.inr ⟨by rfl, rfl⟩) HS.out ?rest13
  go_simp
  refine wpAnyG_take (i := 13) (v := undef) rfl (by kernel_rfl) (fun _ _ _ h => h) (Or.inr ⟨by rfl, rfl⟩) HS.out ?rest14
  go_simp
  refine wpAnyG_take (i := 14) (v := undef) rfl (by kernel_rfl) (fun _ _ _ h => h) (Or.inr ⟨by rfl, rfl⟩) HS.out ?rest15
  go_simp
  refine wpAnyG_take (i := 15) (v := undef) rfl (by kernel_rfl) (fun _ _ _ h => h) (Or.inr ⟨by rfl, rfl⟩) HS.out ?rest16
  go_simp
  refine wpAnyG_take (i := 16) (v := undef) rfl (by kernel_rfl) (fun _ _ _ h => h) (Or.inr ⟨by rfl, rfl⟩) HS.out ?rest17
  go_simp
  refine wpAnyG_take (i := 17) (v := undef) rfl (by kernel_rfl) (fun _ _ _ h => h) (Or.inr ⟨by rfl, rfl⟩) HS.out ?rest18
  go_simp
  refine wpAnyG_take (i := 18) (v := ?v19) rfl (by kernel_rfl) (fun _ _ _ h => h) (Or.inl ⟨by rfl, ?hy19⟩) HS.out ?rest19
  case hy19 => (intro ww _; go_simp; try with_reducible rfl)
  go_simp
  refine wpAnyG_done (by kernel_rfl) ?_ _
  go_simp
  go_wp2
  first | go_end0 | refine bodyPost_ret (results_none rfl _ _ _) rfl ?_
  exact ⟨rfl, { p with ct := (c, .slice a2 c.2.2.2.length k2) }, by rw [show ps.set i _ = ps.set i _ from rfl]; exact H3.out.1.keep (Below.refl _ _).drew, rfl, H3.out.2.trans (But.of (Below.refl _ _).drew), fun _ _ => .inr (fresh_ct H2.out.2.2.2)⟩
set_option maxRecDepth 100000 in
set_option maxHeartbeats 3200000 in
theorem ssettle_old_quo (N g : Nat) (ep : Int) (am : Option Addr) (cm : Nat) (l : List Int) (v : Int) (ps : List Pl) (i : Nat) (p : Pl) (w : World) (h : LgM w N g ep am cm l v ps) (hl : 0 < l.length) (hlm : l.length ≤ 1000) (he : 0 ≤ ep ∧ ep ≤ 60) (_hv : 0 ≤ v ∧ v ≤ 15) (hi : ps[i]? = some p) (_hsz : p.pro.size ≤ 64) (hp : isPrep l.length p.pp = true) (hc : p.ct.1.2.2.2.length ≠ 0) (hw : p.ct.1.1 ≠ v) (hd : p.don.size = 0) (hq : quoOk l.length p.com p.pro = true) :
    Calls Try.prog 48 #[.pointer (some ⟨g, 0, none⟩), .int .i64 (4 * ep + 1 + (i : Int))] w fun e w' => e = .returned (.tuple #[]) ∧ SetPost w w' N g ep am cm l v ps i { p.pp with ct := (certP ep v (4 * ep + 1 + (i : Int)) p.pp), don := p.pro } := by
  have hi4 : i < 4 := by have := (List.getElem?_eq_some_iff.1 hi).1; rw [h.at_.four] at this; exact this
  have HP := hid (sprep_any g ep am cm l v ps i p w h.at_ hl hlm he hi)
  rw [hp] at HP
  have HA : Hid (∀ (u : World) (qs : List Pl), SlA u g ep am cm l v qs → Calls Try.prog 42 #[.pointer (some ⟨g, 0, none⟩), .int .i64 (4 * ep + 1 + (i : Int))] u fun e w' => e = .returned (.pointer (some ⟨g, 3 + i * 43, none⟩)) ∧ w' = u) := hid (fun u qs hu => sat_yes g ep am cm l v qs i u hu hl he hi4)
  have HQ : Hid (∀ (u : World) (qs : List Pl), SlA u g ep am cm l v qs → Calls Try.prog 52 #[.pointer (some ⟨g, 0, none⟩), .agg (sC p.com).toArray, .string p.pro] u fun e w' => e = .returned (.bool (quoOk l.length p.com p.pro)) ∧ Below u.heap.size u w') := hid (fun u qs hu => squo_any g ep am cm l v qs p.com (h.at_.ok p (List.mem_of_getElem? hi)).com p.pro u hu hlm)
  rw [hq] at HQ
  obtain ⟨c, ec⟩ : ∃ c, c = certP ep v (4 * ep + 1 + (i : Int)) p.pp := ⟨_, rfl⟩
  have HC : Hid (∀ u : World, SlA u g ep am cm l v ps → Calls Try.prog 66 #[.pointer (some ⟨g, 0, none⟩), .int .i64 (4 * ep + 1 + (i : Int)), .agg (nowC p).toArray] u fun e w' => ∃ a k, e = .returned (.agg (ctC c (.slice a c.2.2.2.length k)).toArray) ∧ PairsIn w' a c.2.2.2 ∧ (∀ x, a = some x → u.heap.size ≤ x.block) ∧ Below u.heap.size u w') := hid (fun u hu => by rw [ec]; exact scertify_any g ep am cm l v ps p (h.at_.ok p (List.mem_of_getElem? hi)) _hsz (4 * ep + 1 + (i : Int)) (by omega) u hu)
  rw [← ec]
  have HNow : Hid ((nowC p).length = 33) := hid (nowC_len (h.at_.ok p (List.mem_of_getElem? hi)))
  have HLs : Hid ((sC p.com).length = 16) := hid (by rw [sC_len]; exact (h.at_.ok p (List.mem_of_getElem? hi)).com)
  have HL := hid h
  have HSz : Hid (N ≤ w.heap.size) := hid h.sz
  have HI := hid hi
  have HSl : Hid ((lgC ep (.slice am l.length cm) v ps).length = 175 ∧ i < 4) := hid ⟨by rw [lgC]; simp [flat_len43 h.at_.ok, h.at_.four], hi4⟩
  obtain ⟨ac, kc, ecv, _, _⟩ := h.rd p (List.mem_of_getElem? hi)
  have HZ : Hid (∀ u, LgM u N g ep am cm l v ps → u.cell? ⟨g, 3 + i * 43 + 33, none⟩ = some (.int .i64 p.ct.1.1) ∧ u.cell? ⟨g, 3 + i * 43 + 33 + 8, none⟩ = some (.slice ac p.ct.1.2.2.2.length kc) ∧ u.cell? ⟨g, 3 + i * 43 + 41, none⟩ = some (.slice ac p.ct.1.2.2.2.length kc)) := hid (fun u hu => by
    have hok := hu.at_.ok p (List.mem_of_getElem? hi)
    have e8 := hu.at_.at i p (33 + 8) _ hi (by omega) (plC_ct hok 8 _ (by rw [ecv]; rfl))
    exact ⟨hu.at_.at i p 33 _ hi (by omega) (plC_ct hok 0 _ rfl), by rw [Nat.add_assoc (3 + i * 43)]; exact e8, e8⟩)
  have hn0 : ((p.ct.1.2.2.2.length : Int) == 0) = false := beq_eq_false_iff_ne.2 (by omega)
  have hn1 : (p.ct.1.2.2.2.length == 0) = false := beq_eq_false_iff_ne.2 hc
  have hv1 : (p.ct.1.1 != v) = true := by simpa using hw
  have hv2 : (p.ct.1.1 == v) = false := by simpa using hw
  have hds : p.don.toList.isEmpty = true := toList_nil hd
  generalize hcl : p.ct.1.2.2.2.length = CL at HZ hn0 hn1
  generalize p.ct.1.1 = CV at HZ hv1 hv2
  generalize 4 * ep + 1 + (i : Int) = s at HP HA HC ⊢
  clear h hl hlm he _hv hi _hsz hp hi4 hc hw hd hq ec ecv hcl
  go_enter Try.func48, Try.ntmps48
  go_wp2_with (first
    | (go_at_call 29; go_must (refine HP.out.mono ?_); rintro e w1 ⟨rfl, hb1⟩; have H1 : Hid (LgM w1 N g ep am cm l v ps ∧ Below w.heap.size w w1) := hid ⟨HL.out.keep hb1, hb1⟩; clear hb1)
    | (go_at_call 42; go_must (refine (HA.out _ _ H1.out.1.at_).mono ?_); rintro e wq ⟨rfl, hwq⟩; replace hwq := hwq.symm; subst hwq))
  obtain ⟨wd, ed⟩ : ∃ u, u = w1.drew := ⟨_, rfl⟩
  have HD : Hid (LgM wd N g ep am cm l v ps ∧ Below w.heap.size w wd) := hid (by rw [ed]; exact ⟨H1.out.1.keep (Below.refl _ _).drew, H1.out.2.drew⟩)
  have HS : Hid (LgM wd N g ep am cm l v ps) := hid HD.out.1
  refine wp_region_G (S := fun ww => LgM ww N g ep am cm l v ps) (ex := []) (by kernel_rfl) ?_
  try (change wpAnyG _ _ _ _ _ _ _ _ _ (World.drew _))
  try rw [← ed]
  clear ed
  refine wpAnyG_take (i := 0) (v := ?v401) rfl (by kernel_rfl) (fun _ _ _ h => h) (Or.inl ⟨by rfl, ?hy401⟩) HS.out ?rest401
  case hy401 => (intro ww _; go_simp; try with_reducible rfl)
  go_simp
  refine wpAnyG_take (i := 1) (v := ?v402) rfl (by kernel_rfl) (fun _ _ _ h => h) (Or.inl ⟨by rfl, ?hy402⟩) HS.out ?rest402
  case hy402 => (intro ww _; go_simp; try with_reducible rfl)
  go_simp
  refine wpAnyG_take (i := 2) (v := ?v403) rfl (by kernel_rfl) (fun _ _ _ h => h) (Or.inl ⟨by rfl, ?hy403⟩) HS.out ?rest403
  case hy403 => (intro ww _; go_simp; try with_reducible rfl)
  go_simp
  refine wpAnyG_take (i := 3) (v := ?v404) rfl (by kernel_rfl) (fun _ _ _ h => h) (Or.inl ⟨by rfl, ?hy404⟩) HS.out ?rest404
  case hy404 => (intro ww _; go_simp; try with_reducible rfl)
  go_simp
  refine wpAnyG_take (i := 4) (v := ?v405) rfl (by kernel_rfl) (fun _ _ _ h => h) (Or.inl ⟨by rfl, ?hy405⟩) HS.out ?rest405
  case hy405 => (intro ww hS; obtain ⟨z0, z8, z9⟩ := HZ.out _ hS; have zv := hS.at_.c2; go_simp; try with_reducible rfl)
  go_simp
  refine wpAnyG_take (i := 5) (v := ?v406) rfl (by kernel_rfl) (fun _ _ _ h => h) (Or.inl ⟨by rfl, ?hy406⟩) HS.out ?rest406
  case hy406 => (intro ww _; go_simp; try with_reducible rfl)
  go_simp
  refine wpAnyG_take (i := 6) (v := ?v407) rfl (by kernel_rfl) (fun _ _ _ h => h) (Or.inl ⟨by rfl, ?hy407⟩) HS.out ?rest407
  case hy407 => (intro ww _; go_simp; try with_reducible rfl)
  go_simp
  refine wpAnyG_take (i := 7) (v := ?v408) rfl (by kernel_rfl) (fun _ _ _ h => h) (Or.inl ⟨by rfl, ?hy408⟩) HS.out ?rest408
  case hy408 => (intro ww _; go_simp; try with_reducible rfl)
  go_simp
  refine wpAnyG_take (i := 8) (v := ?v409) rfl (by kernel_rfl) (fun _ _ _ h => h) (Or.inl ⟨by rfl, ?hy409⟩) HS.out ?rest409
  case hy409 => (intro ww _; go_simp; try with_reducible rfl)
  go_simp
  refine wpAnyG_take (i := 9) (v := ?v410) rfl (by kernel_rfl) (fun _ _ _ h => h) (Or.inl ⟨by rfl, ?hy410⟩) HS.out ?rest410
  case hy410 => (intro ww _; go_simp; try with_reducible rfl)
  go_simp
  refine wpAnyG_take (i := 10) (v := ?v411) rfl (by kernel_rfl) (fun _ _ _ h => h) (Or.inl ⟨by rfl, ?hy411⟩) HS.out ?rest411
  case hy411 => (intro ww _; go_simp; try with_reducible rfl)
  go_simp
  refine wpAnyG_take (i := 11) (v := ?v412) rfl (by kernel_rfl) (fun _ _ _ h => h) (Or.inl ⟨by rfl, ?hy412⟩) HS.out ?rest412
  case hy412 => (intro ww _; go_simp; try with_reducible rfl)
  go_simp
  refine wpAnyG_take (i := 12) (v := ?v413) rfl (by kernel_rfl) (fun _ _ _ h => h) (Or.inl ⟨by rfl, ?hy413⟩) HS.out ?rest413
  case hy413 => (intro ww hS; obtain ⟨z0, z8, z9⟩ := HZ.out _ hS; have zv := hS.at_.c2; go_simp; try with_reducible rfl)
  go_simp
  refine wpAnyG_take (i := 13) (v := ?v414) rfl (by kernel_rfl) (fun _ _ _ h => h) (Or.inl ⟨by rfl, ?hy414⟩) HS.out ?rest414
  case hy414 => (intro ww _; go_simp; try with_reducible rfl)
  go_simp
  refine wpAnyG_take (i := 14) (v := ?v415) rfl (by kernel_rfl) (fun _ _ _ h => h) (Or.inl ⟨by rfl, ?hy415⟩) HS.out ?rest415
  case hy415 => (intro ww _; go_simp; try with_reducible rfl)
  go_simp
  refine wpAnyG_take (i := 15) (v := ?v416) rfl (by kernel_rfl) (fun _ _ _ h => h) (Or.inl ⟨by rfl, ?hy416⟩) HS.out ?rest416
  case hy416 => (intro ww _; go_simp; try with_reducible rfl)
  go_simp
  refine wpAnyG_take (i := 16) (v := ?v417) rfl (by kernel_rfl) (fun _ _ _ h => h) (Or.inl ⟨by rfl, ?hy417⟩) HS.out ?rest417
  case hy417 => (intro ww hS; obtain ⟨z0, z8, z9⟩ := HZ.out _ hS; have zv := hS.at_.c2; go_simp; try with_reducible rfl)
  go_simp
  refine wpAnyG_take (i := 17) (v := ?v418) rfl (by kernel_rfl) (fun _ _ _ h => h) (Or.inl ⟨by rfl, ?hy418⟩) HS.out ?rest418
  case hy418 => (intro ww _; go_simp; try with_reducible rfl)
  go_simp
  refine wpAnyG_take (i := 18) (v := ?v419) rfl (by kernel_rfl) (fun _ _ _ h => h) (Or.inl ⟨by rfl, ?hy419⟩) HS.out ?rest419
  case hy419 => (intro ww _; go_simp; try with_reducible rfl)
  go_simp
  refine wpAnyG_done (by kernel_rfl) ?_ _
  go_simp
  clear HS
  go_wp2_with (first
    | (refine wl_load_at rfl 76 _ rfl g (3 + i * 43) rfl (nowC p) (HD.out.1.at_.now33 HI.out) _ Try.underlying76 rfl (by rw [HNow.out]; kernel_rfl) ?_)
    | (go_at_call 66; go_must (refine (HC.out _ HD.out.1.at_).mono ?_); rintro e w2 ⟨a2, k2, rfl, hp2, hN2, hb2⟩; have H2 : Hid (LgM w2 N g ep am cm l v ps ∧ Below w.heap.size w w2 ∧ PairsIn w2 a2 c.2.2.2 ∧ (∀ x, a2 = some x → w.heap.size ≤ x.block)) := hid ⟨HD.out.1.keep hb2, HD.out.2.trans (hb2.mono HD.out.2.size), hp2, fun x hx => Nat.le_trans HD.out.2.size (hN2 x hx)⟩; clear hp2 hN2 hb2)
    | (have := H2; refine wl_store_blk rfl 46 _ _ rfl g (3 + i * 43 + 33) rfl (ctC c (.slice a2 c.2.2.2.length k2)).toArray rfl (lgC ep (.slice am l.length cm) v ps) 81 H2.out.1.at_.blk (by rw [HSl.out.1]; have := HSl.out.2; simp [ctC]; omega) (by kernel_rfl) (by simp [ctC, Value.oneCell']) ?_; intro w3 Hz; go_must (have H3 : Hid (LgM w3 N g ep am cm l v (ps.set i { p with ct := (c, .slice a2 c.2.2.2.length k2) }) ∧ But g w w3) := hid (by have hh := H2.out.1.putct HI.out c a2 k2 H2.out.2.2.1 (fun x hx => Nat.le_trans HSz.out (H2.out.2.2.2 x hx)) Hz.out; exact ⟨hh.1, (But.of H2.out.2.1).trans hh.2⟩)); clear Hz))
  have HI3 : Hid ((ps.set i { p with ct := (c, .slice a2 c.2.2.2.length k2) })[i]? = some { p with ct := (c, .slice a2 c.2.2.2.length k2) }) := hid (set_get _ HI.out)
  have HS : Hid (SlA w3.drew g ep am cm l v (ps.set i { p with ct := (c, .slice a2 c.2.2.2.length k2) })) := hid (H3.out.1.at_.keep (Below.refl _ _).drew)
  refine wp_region_G (S := fun ww => SlA ww g ep am cm l v (ps.set i { p with ct := (c, .slice a2 c.2.2.2.length k2) })) (ex := []) (by kernel_rfl) ?_
  try (change wpAnyG _ _ _ _ _ _ _ _ _ (World.drew _))
  refine wpAnyG_take (i := 0) (v := ?v1) rfl (by kernel_rfl) (fun _ _ _ h => h) (Or.inl ⟨by rfl, ?hy1⟩) HS.out ?rest1
  case hy1 => (intro ww _; go_simp; try with_reducible rfl)
  go_simp
  refine wpAnyG_take (i := 1) (v := ?v2) rfl (by kernel_rfl) (fun _ _ _ h => h) (Or.inl ⟨by rfl, ?hy2⟩) HS.out ?rest2
  case hy2 => (intro ww _; go_simp; try with_reducible rfl)
  go_simp
  refine wpAnyG_take (i := 2) (v := ?v3) rfl (by kernel_rfl) (fun _ _ _ h => h) (Or.inl ⟨by rfl, ?hy3⟩) HS.out ?rest3
  case hy3 => (intro ww _; go_simp; try with_reducible rfl)
  go_simp
  refine wpAnyG_take (i := 3) (v := ?v4) rfl (by kernel_rfl) (fun _ _ _ h => h) (Or.inl ⟨by rfl, ?hy4⟩) HS.out ?rest4
  case hy4 => (intro ww hS; have y9 := don_of hS HI3.out; go_simp; try with_reducible rfl)
  go_simp
  refine wpAnyG_take (i := 4) (v := ?v5) rfl (by kernel_rfl) (fun _ _ _ h => h) (Or.inl ⟨by rfl, ?hy5⟩) HS.out ?rest5
  case hy5 => (intro ww _; go_simp; try with_reducible rfl)
  go_simp
  refine wpAnyG_take (i := 5) (v := ?v6) rfl (by kernel_rfl) (fun _ _ _ h => h) (Or.inl ⟨by rfl, ?hy6⟩) HS.out ?rest6
  case hy6 => (intro ww _; go_simp; try with_reducible rfl)
  go_simp
  refine wpAnyG_take (i := 6) (v := ?v7) rfl (by kernel_rfl) (fun _ _ _ h => h) (Or.inl ⟨by rfl, ?hy7⟩) HS.out ?rest7
  case hy7 => (intro ww _; go_simp; try with_reducible rfl)
  go_simp
  refine wpAnyG_take (i := 7) (v := ?v8) rfl (by kernel_rfl) (fun _ _ _ h => h) (Or.inl ⟨by rfl, ?hy8⟩) HS.out ?rest8
  case hy8 => (intro ww _; go_simp; try with_reducible rfl)
  go_simp
  refine wpAnyG_take (i := 8) (v := ?v9) rfl (by kernel_rfl) (fun _ _ _ h => h) (Or.inl ⟨by rfl, ?hy9⟩) HS.out ?rest9
  case hy9 => (intro ww _; go_simp; try with_reducible rfl)
  go_simp
  refine wpAnyG_take (i := 9) (v := ?v10) rfl (by kernel_rfl) (fun _ _ _ h => h) (Or.inl ⟨by rfl, ?hy10⟩) HS.out ?rest10
  case hy10 => (intro ww _; go_simp; try with_reducible rfl)
  go_simp
  refine wpAnyG_take (i := 10) (v := ?v11) rfl (by kernel_rfl) (fun _ _ _ h => h) (Or.inl ⟨by rfl, ?hy11⟩) HS.out ?rest11
  case hy11 => (intro ww _; go_simp; try with_reducible rfl)
  go_simp
  refine wpAnyG_take (i := 11) (v := .agg (sC p.com).toArray) rfl (by kernel_rfl) (fun _ _ _ h => h) (yieldsIf_load_mid (by rfl) 74 _ rfl g (3 + i * 43 + 17) rfl (sC p.com) _ (fun _ hS => SlA.com16 (p := { p with ct := (c, .slice a2 c.2.2.2.length k2) }) hS HI3.out) Try.underlying74 rfl (by rw [HLs.out]; kernel_rfl)) HS.out ?rest99
  go_simp
  refine wpAnyG_take (i := 12) (v := ?v12) rfl (by kernel_rfl) (fun _ _ _ h => h) (Or.inl ⟨by rfl, ?hy12⟩) HS.out ?rest12
  case hy12 => (intro ww _; go_simp; try with_reducible rfl)
  go_simp
  refine wpAnyG_take (i := 13) (v := ?v13) rfl (by kernel_rfl) (fun _ _ _ h => h) (Or.inl ⟨by rfl, ?hy13⟩) HS.out ?rest13
  case hy13 => (intro ww _; go_simp; try with_reducible rfl)
  go_simp
  refine wpAnyG_take (i := 14) (v := ?v14) rfl (by kernel_rfl) (fun _ _ _ h => h) (Or.inl ⟨by rfl, ?hy14⟩) HS.out ?rest14
  case hy14 => (intro ww _; go_simp; try with_reducible rfl)
  go_simp
  refine wpAnyG_take (i := 15) (v := ?v15) rfl (by kernel_rfl) (fun _ _ _ h => h) (Or.inl ⟨by rfl, ?hy15⟩) HS.out ?rest15
  case hy15 => (intro ww _; go_simp; try with_reducible rfl)
  go_simp
  refine wpAnyG_take (i := 16) (v := ?v16) rfl (by kernel_rfl) (fun _ _ _ h => h) (Or.inl ⟨by rfl, ?hy16⟩) HS.out ?rest16
  case hy16 => (intro ww hS; have y0 := pro_of hS HI3.out; go_simp; try with_reducible rfl)
  go_simp
  refine wpAnyG_all (rs := [17]) (by kernel_rfl) (by simp) ?_
  intro i hi
  obtain rfl := List.mem_singleton.1 hi
  clear hi
  refine wpOp_s rfl (by rfl) (fun K hK => ?_)
  go_simp
  refine (HQ.out _ _ HS.out).mono ?_
  rintro e w5 ⟨rfl, hb5⟩
  have H5 : Hid (LgM w5 N g ep am cm l v (ps.set i { p with ct := (c, .slice a2 c.2.2.2.length k2) }) ∧ But g w w5) := hid ⟨H3.out.1.keep ((Below.refl _ _).drew.trans hb5), H3.out.2.trans (But.of ((Below.refl _ _).drew.trans hb5))⟩
  have HS5 : Hid (SlA w5 g ep am cm l v (ps.set i { p with ct := (c, .slice a2 c.2.2.2.length k2) })) := hid H5.out.1.at_
  clear hb5
  refine hK _ _ ⟨fun _ => HS5.out, ?_⟩
  clear hK K
  go_simp
  refine wpAnyG_take (i := 18) (v := ?v17) rfl (by kernel_rfl) (fun _ _ _ h => h) (Or.inl ⟨by rfl, ?hy17⟩) HS5.out ?rest17
  case hy17 => (intro ww _; go_simp; try with_reducible rfl)
  go_simp
  refine wpAnyG_done (by kernel_rfl) ?_ _
  go_simp
  have y0 : w5.cell? ⟨g, 3 + i * 43, none⟩ = some (.string p.pro) := pro_of (p := { p with ct := (c, .slice a2 c.2.2.2.length k2) }) H5.out.1.at_ HI3.out
  have HLen : Hid ((lgC ep (.slice am l.length cm) v (ps.set i { p with ct := (c, .slice a2 c.2.2.2.length k2) })).length = 175) := hid (by rw [lgC]; simp [flat_len43 H5.out.1.at_.ok, H5.out.1.at_.four])
  go_wp2_with (first
    | (refine wl_storeV rfl 9 _ _ rfl g (3 + i * 43 + 42) rfl (.string p.pro) rfl rfl rfl (lgC ep (.slice am l.length cm) v (ps.set i { p with ct := (c, .slice a2 c.2.2.2.length k2) })) 81 H5.out.1.at_.blk (by rw [HLen.out]; have := HSl.out.2; omega) (by kernel_rfl) ?_; intro w7 Hz; have H7 := hid (H5.out.1.putdon HI3.out p.pro Hz.out); clear Hz))
  first | go_end0 | refine bodyPost_ret (results_none rfl _ _ _) rfl ?_
  have hh := H7.out
  exact ⟨rfl, { p with ct := (c, .slice a2 c.2.2.2.length k2), don := p.pro }, by rw [List.set_set] at hh; exact hh.1, rfl, H5.out.2.trans hh.2, fun _ _ => .inr (fresh_ct H2.out.2.2.2)⟩
set_option maxRecDepth 100000 in
set_option maxHeartbeats 3200000 in
theorem ssettle_old_few (N g : Nat) (ep : Int) (am : Option Addr) (cm : Nat) (l : List Int) (v : Int) (ps : List Pl) (i : Nat) (p : Pl) (w : World) (h : LgM w N g ep am cm l v ps) (hl : 0 < l.length) (hlm : l.length ≤ 1000) (he : 0 ≤ ep ∧ ep ≤ 60) (_hv : 0 ≤ v ∧ v ≤ 15) (hi : ps[i]? = some p) (_hsz : p.pro.size ≤ 64) (hp : isPrep l.length p.pp = true) (hc : p.ct.1.2.2.2.length ≠ 0) (hw : p.ct.1.1 ≠ v) (hd : p.don.size = 0) (hq : quoOk l.length p.com p.pro = false) :
    Calls Try.prog 48 #[.pointer (some ⟨g, 0, none⟩), .int .i64 (4 * ep + 1 + (i : Int))] w fun e w' => e = .returned (.tuple #[]) ∧ SetPost w w' N g ep am cm l v ps i { p.pp with ct := (certP ep v (4 * ep + 1 + (i : Int)) p.pp), don := p.don } := by
  have hi4 : i < 4 := by have := (List.getElem?_eq_some_iff.1 hi).1; rw [h.at_.four] at this; exact this
  have HP := hid (sprep_any g ep am cm l v ps i p w h.at_ hl hlm he hi)
  rw [hp] at HP
  have HA : Hid (∀ (u : World) (qs : List Pl), SlA u g ep am cm l v qs → Calls Try.prog 42 #[.pointer (some ⟨g, 0, none⟩), .int .i64 (4 * ep + 1 + (i : Int))] u fun e w' => e = .returned (.pointer (some ⟨g, 3 + i * 43, none⟩)) ∧ w' = u) := hid (fun u qs hu => sat_yes g ep am cm l v qs i u hu hl he hi4)
  have HQ : Hid (∀ (u : World) (qs : List Pl), SlA u g ep am cm l v qs → Calls Try.prog 52 #[.pointer (some ⟨g, 0, none⟩), .agg (sC p.com).toArray, .string p.pro] u fun e w' => e = .returned (.bool (quoOk l.length p.com p.pro)) ∧ Below u.heap.size u w') := hid (fun u qs hu => squo_any g ep am cm l v qs p.com (h.at_.ok p (List.mem_of_getElem? hi)).com p.pro u hu hlm)
  rw [hq] at HQ
  obtain ⟨c, ec⟩ : ∃ c, c = certP ep v (4 * ep + 1 + (i : Int)) p.pp := ⟨_, rfl⟩
  have HC : Hid (∀ u : World, SlA u g ep am cm l v ps → Calls Try.prog 66 #[.pointer (some ⟨g, 0, none⟩), .int .i64 (4 * ep + 1 + (i : Int)), .agg (nowC p).toArray] u fun e w' => ∃ a k, e = .returned (.agg (ctC c (.slice a c.2.2.2.length k)).toArray) ∧ PairsIn w' a c.2.2.2 ∧ (∀ x, a = some x → u.heap.size ≤ x.block) ∧ Below u.heap.size u w') := hid (fun u hu => by rw [ec]; exact scertify_any g ep am cm l v ps p (h.at_.ok p (List.mem_of_getElem? hi)) _hsz (4 * ep + 1 + (i : Int)) (by omega) u hu)
  rw [← ec]
  have HNow : Hid ((nowC p).length = 33) := hid (nowC_len (h.at_.ok p (List.mem_of_getElem? hi)))
  have HLs : Hid ((sC p.com).length = 16) := hid (by rw [sC_len]; exact (h.at_.ok p (List.mem_of_getElem? hi)).com)
  have HL := hid h
  have HSz : Hid (N ≤ w.heap.size) := hid h.sz
  have HI := hid hi
  have HSl : Hid ((lgC ep (.slice am l.length cm) v ps).length = 175 ∧ i < 4) := hid ⟨by rw [lgC]; simp [flat_len43 h.at_.ok, h.at_.four], hi4⟩
  obtain ⟨ac, kc, ecv, _, _⟩ := h.rd p (List.mem_of_getElem? hi)
  have HZ : Hid (∀ u, LgM u N g ep am cm l v ps → u.cell? ⟨g, 3 + i * 43 + 33, none⟩ = some (.int .i64 p.ct.1.1) ∧ u.cell? ⟨g, 3 + i * 43 + 33 + 8, none⟩ = some (.slice ac p.ct.1.2.2.2.length kc) ∧ u.cell? ⟨g, 3 + i * 43 + 41, none⟩ = some (.slice ac p.ct.1.2.2.2.length kc)) := hid (fun u hu => by
    have hok := hu.at_.ok p (List.mem_of_getElem? hi)
    have e8 := hu.at_.at i p (33 + 8) _ hi (by omega) (plC_ct hok 8 _ (by rw [ecv]; rfl))
    exact ⟨hu.at_.at i p 33 _ hi (by omega) (plC_ct hok 0 _ rfl), by rw [Nat.add_assoc (3 + i * 43)]; exact e8, e8⟩)
  have hn0 : ((p.ct.1.2.2.2.length : Int) == 0) = false := beq_eq_false_iff_ne.2 (by omega)
  have hn1 : (p.ct.1.2.2.2.length == 0) = false := beq_eq_false_iff_ne.2 hc
  have hv1 : (p.ct.1.1 != v) = true := by simpa using hw
  have hv2 : (p.ct.1.1 == v) = false := by simpa using hw
  have hds : p.don.toList.isEmpty = true := toList_nil hd
  generalize hcl : p.ct.1.2.2.2.length = CL at HZ hn0 hn1
  generalize p.ct.1.1 = CV at HZ hv1 hv2
  generalize 4 * ep + 1 + (i : Int) = s at HP HA HC ⊢
  clear h hl hlm he _hv hi _hsz hp hi4 hc hw hd hq ec ecv hcl
  go_enter Try.func48, Try.ntmps48
  go_wp2_with (first
    | (go_at_call 29; go_must (refine HP.out.mono ?_); rintro e w1 ⟨rfl, hb1⟩; have H1 : Hid (LgM w1 N g ep am cm l v ps ∧ Below w.heap.size w w1) := hid ⟨HL.out.keep hb1, hb1⟩; clear hb1)
    | (go_at_call 42; go_must (refine (HA.out _ _ H1.out.1.at_).mono ?_); rintro e wq ⟨rfl, hwq⟩; replace hwq := hwq.symm; subst hwq))
  obtain ⟨wd, ed⟩ : ∃ u, u = w1.drew := ⟨_, rfl⟩
  have HD : Hid (LgM wd N g ep am cm l v ps ∧ Below w.heap.size w wd) := hid (by rw [ed]; exact ⟨H1.out.1.keep (Below.refl _ _).drew, H1.out.2.drew⟩)
  have HS : Hid (LgM wd N g ep am cm l v ps) := hid HD.out.1
  refine wp_region_G (S := fun ww => LgM ww N g ep am cm l v ps) (ex := []) (by kernel_rfl) ?_
  try (change wpAnyG _ _ _ _ _ _ _ _ _ (World.drew _))
  try rw [← ed]
  clear ed
  refine wpAnyG_take (i := 0) (v := ?v401) rfl (by kernel_rfl) (fun _ _ _ h => h) (Or.inl ⟨by rfl, ?hy401⟩) HS.out ?rest401
  case hy401 => (intro ww _; go_simp; try with_reducible rfl)
  go_simp
  refine wpAnyG_take (i := 1) (v := ?v402) rfl (by kernel_rfl) (fun _ _ _ h => h) (Or.inl ⟨by rfl, ?hy402⟩) HS.out ?rest402
  case hy402 => (intro ww _; go_simp; try with_reducible rfl)
  go_simp
  refine wpAnyG_take (i := 2) (v := ?v403) rfl (by kernel_rfl) (fun _ _ _ h => h) (Or.inl ⟨by rfl, ?hy403⟩) HS.out ?rest403
  case hy403 => (intro ww _; go_simp; try with_reducible rfl)
  go_simp
  refine wpAnyG_take (i := 3) (v := ?v404) rfl (by kernel_rfl) (fun _ _ _ h => h) (Or.inl ⟨by rfl, ?hy404⟩) HS.out ?rest404
  case hy404 => (intro ww _; go_simp; try with_reducible rfl)
  go_simp
  refine wpAnyG_take (i := 4) (v := ?v405) rfl (by kernel_rfl) (fun _ _ _ h => h) (Or.inl ⟨by rfl, ?hy405⟩) HS.out ?rest405
  case hy405 => (intro ww hS; obtain ⟨z0, z8, z9⟩ := HZ.out _ hS; have zv := hS.at_.c2; go_simp; try with_reducible rfl)
  go_simp
  refine wpAnyG_take (i := 5) (v := ?v406) rfl (by kernel_rfl) (fun _ _ _ h => h) (Or.inl ⟨by rfl, ?hy406⟩) HS.out ?rest406
  case hy406 => (intro ww _; go_simp; try with_reducible rfl)
  go_simp
  refine wpAnyG_take (i := 6) (v := ?v407) rfl (by kernel_rfl) (fun _ _ _ h => h) (Or.inl ⟨by rfl, ?hy407⟩) HS.out ?rest407
  case hy407 => (intro ww _; go_simp; try with_reducible rfl)
  go_simp
  refine wpAnyG_take (i := 7) (v := ?v408) rfl (by kernel_rfl) (fun _ _ _ h => h) (Or.inl ⟨by rfl, ?hy408⟩) HS.out ?rest408
  case hy408 => (intro ww _; go_simp; try with_reducible rfl)
  go_simp
  refine wpAnyG_take (i := 8) (v := ?v409) rfl (by kernel_rfl) (fun _ _ _ h => h) (Or.inl ⟨by rfl, ?hy409⟩) HS.out ?rest409
  case hy409 => (intro ww _; go_simp; try with_reducible rfl)
  go_simp
  refine wpAnyG_take (i := 9) (v := ?v410) rfl (by kernel_rfl) (fun _ _ _ h => h) (Or.inl ⟨by rfl, ?hy410⟩) HS.out ?rest410
  case hy410 => (intro ww _; go_simp; try with_reducible rfl)
  go_simp
  refine wpAnyG_take (i := 10) (v := ?v411) rfl (by kernel_rfl) (fun _ _ _ h => h) (Or.inl ⟨by rfl, ?hy411⟩) HS.out ?rest411
  case hy411 => (intro ww _; go_simp; try with_reducible rfl)
  go_simp
  refine wpAnyG_take (i := 11) (v := ?v412) rfl (by kernel_rfl) (fun _ _ _ h => h) (Or.inl ⟨by rfl, ?hy412⟩) HS.out ?rest412
  case hy412 => (intro ww _; go_simp; try with_reducible rfl)
  go_simp
  refine wpAnyG_take (i := 12) (v := ?v413) rfl (by kernel_rfl) (fun _ _ _ h => h) (Or.inl ⟨by rfl, ?hy413⟩) HS.out ?rest413
  case hy413 => (intro ww hS; obtain ⟨z0, z8, z9⟩ := HZ.out _ hS; have zv := hS.at_.c2; go_simp; try with_reducible rfl)
  go_simp
  refine wpAnyG_take (i := 13) (v := ?v414) rfl (by kernel_rfl) (fun _ _ _ h => h) (Or.inl ⟨by rfl, ?hy414⟩) HS.out ?rest414
  case hy414 => (intro ww _; go_simp; try with_reducible rfl)
  go_simp
  refine wpAnyG_take (i := 14) (v := ?v415) rfl (by kernel_rfl) (fun _ _ _ h => h) (Or.inl ⟨by rfl, ?hy415⟩) HS.out ?rest415
  case hy415 => (intro ww _; go_simp; try with_reducible rfl)
  go_simp
  refine wpAnyG_take (i := 15) (v := ?v416) rfl (by kernel_rfl) (fun _ _ _ h => h) (Or.inl ⟨by rfl, ?hy416⟩) HS.out ?rest416
  case hy416 => (intro ww _; go_simp; try with_reducible rfl)
  go_simp
  refine wpAnyG_take (i := 16) (v := ?v417) rfl (by kernel_rfl) (fun _ _ _ h => h) (Or.inl ⟨by rfl, ?hy417⟩) HS.out ?rest417
  case hy417 => (intro ww hS; obtain ⟨z0, z8, z9⟩ := HZ.out _ hS; have zv := hS.at_.c2; go_simp; try with_reducible rfl)
  go_simp
  refine wpAnyG_take (i := 17) (v := ?v418) rfl (by kernel_rfl) (fun _ _ _ h => h) (Or.inl ⟨by rfl, ?hy418⟩) HS.out ?rest418
  case hy418 => (intro ww _; go_simp; try with_reducible rfl)
  go_simp
  refine wpAnyG_take (i := 18) (v := ?v419) rfl (by kernel_rfl) (fun _ _ _ h => h) (Or.inl ⟨by rfl, ?hy419⟩) HS.out ?rest419
  case hy419 => (intro ww _; go_simp; try with_reducible rfl)
  go_simp
  refine wpAnyG_done (by kernel_rfl) ?_ _
  go_simp
  clear HS
  go_wp2_with (first
    | (refine wl_load_at rfl 76 _ rfl g (3 + i * 43) rfl (nowC p) (HD.out.1.at_.now33 HI.out) _ Try.underlying76 rfl (by rw [HNow.out]; kernel_rfl) ?_)
    | (go_at_call 66; go_must (refine (HC.out _ HD.out.1.at_).mono ?_); rintro e w2 ⟨a2, k2, rfl, hp2, hN2, hb2⟩; have H2 : Hid (LgM w2 N g ep am cm l v ps ∧ Below w.heap.size w w2 ∧ PairsIn w2 a2 c.2.2.2 ∧ (∀ x, a2 = some x → w.heap.size ≤ x.block)) := hid ⟨HD.out.1.keep hb2, HD.out.2.trans (hb2.mono HD.out.2.size), hp2, fun x hx => Nat.le_trans HD.out.2.size (hN2 x hx)⟩; clear hp2 hN2 hb2)
    | (have := H2; refine wl_store_blk rfl 46 _ _ rfl g (3 + i * 43 + 33) rfl (ctC c (.slice a2 c.2.2.2.length k2)).toArray rfl (lgC ep (.slice am l.length cm) v ps) 81 H2.out.1.at_.blk (by rw [HSl.out.1]; have := HSl.out.2; simp [ctC]; omega) (by kernel_rfl) (by simp [ctC, Value.oneCell']) ?_; intro w3 Hz; go_must (have H3 : Hid (LgM w3 N g ep am cm l v (ps.set i { p with ct := (c, .slice a2 c.2.2.2.length k2) }) ∧ But g w w3) := hid (by have hh := H2.out.1.putct HI.out c a2 k2 H2.out.2.2.1 (fun x hx => Nat.le_trans HSz.out (H2.out.2.2.2 x hx)) Hz.out; exact ⟨hh.1, (But.of H2.out.2.1).trans hh.2⟩)); clear Hz))
  have HI3 : Hid ((ps.set i { p with ct := (c, .slice a2 c.2.2.2.length k2) })[i]? = some { p with ct := (c, .slice a2 c.2.2.2.length k2) }) := hid (set_get _ HI.out)
  have HS : Hid (SlA w3.drew g ep am cm l v (ps.set i { p with ct := (c, .slice a2 c.2.2.2.length k2) })) := hid (H3.out.1.at_.keep (Below.refl _ _).drew)
  refine wp_region_G (S := fun ww => SlA ww g ep am cm l v (ps.set i { p with ct := (c, .slice a2 c.2.2.2.length k2) })) (ex := []) (by kernel_rfl) ?_
  try (change wpAnyG _ _ _ _ _ _ _ _ _ (World.drew _))
  refine wpAnyG_take (i := 0) (v := ?v1) rfl (by kernel_rfl) (fun _ _ _ h => h) (Or.inl ⟨by rfl, ?hy1⟩) HS.out ?rest1
  case hy1 => (intro ww _; go_simp; try with_reducible rfl)
  go_simp
  refine wpAnyG_take (i := 1) (v := ?v2) rfl (by kernel_rfl) (fun _ _ _ h => h) (Or.inl ⟨by rfl, ?hy2⟩) HS.out ?rest2
  case hy2 => (intro ww _; go_simp; try with_reducible rfl)
  go_simp
  refine wpAnyG_take (i := 2) (v := ?v3) rfl (by kernel_rfl) (fun _ _ _ h => h) (Or.inl ⟨by rfl, ?hy3⟩) HS.out ?rest3
  case hy3 => (intro ww _; go_simp; try with_reducible rfl)
  go_simp
  refine wpAnyG_take (i := 3) (v := ?v4) rfl (by kernel_rfl) (fun _ _ _ h => h) (Or.inl ⟨by rfl, ?hy4⟩) HS.out ?rest4
  case hy4 => (intro ww hS; have y9 := don_of hS HI3.out; go_simp; try with_reducible rfl)
  go_simp
  refine wpAnyG_take (i := 4) (v := ?v5) rfl (by kernel_rfl) (fun _ _ _ h => h) (Or.inl ⟨by rfl, ?hy5⟩) HS.out ?rest5
  case hy5 => (intro ww _; go_simp; try with_reducible rfl)
  go_simp
  refine wpAnyG_take (i := 5) (v := ?v6) rfl (by kernel_rfl) (fun _ _ _ h => h) (Or.inl ⟨by rfl, ?hy6⟩) HS.out ?rest6
  case hy6 => (intro ww _; go_simp; try with_reducible rfl)
  go_simp
  refine wpAnyG_take (i := 6) (v := ?v7) rfl (by kernel_rfl) (fun _ _ _ h => h) (Or.inl ⟨by rfl, ?hy7⟩) HS.out ?rest7
  case hy7 => (intro ww _; go_simp; try with_reducible rfl)
  go_simp
  refine wpAnyG_take (i := 7) (v := ?v8) rfl (by kernel_rfl) (fun _ _ _ h => h) (Or.inl ⟨by rfl, ?hy8⟩) HS.out ?rest8
  case hy8 => (intro ww _; go_simp; try with_reducible rfl)
  go_simp
  refine wpAnyG_take (i := 8) (v := ?v9) rfl (by kernel_rfl) (fun _ _ _ h => h) (Or.inl ⟨by rfl, ?hy9⟩) HS.out ?rest9
  case hy9 => (intro ww _; go_simp; try with_reducible rfl)
  go_simp
  refine wpAnyG_take (i := 9) (v := ?v10) rfl (by kernel_rfl) (fun _ _ _ h => h) (Or.inl ⟨by rfl, ?hy10⟩) HS.out ?rest10
  case hy10 => (intro ww _; go_simp; try with_reducible rfl)
  go_simp
  refine wpAnyG_take (i := 10) (v := ?v11) rfl (by kernel_rfl) (fun _ _ _ h => h) (Or.inl ⟨by rfl, ?hy11⟩) HS.out ?rest11
  case hy11 => (intro ww _; go_simp; try with_reducible rfl)
  go_simp
  refine wpAnyG_take (i := 11) (v := .agg (sC p.com).toArray) rfl (by kernel_rfl) (fun _ _ _ h => h) (yieldsIf_load_mid (by rfl) 74 _ rfl g (3 + i * 43 + 17) rfl (sC p.com) _ (fun _ hS => SlA.com16 (p := { p with ct := (c, .slice a2 c.2.2.2.length k2) }) hS HI3.out) Try.underlying74 rfl (by rw [HLs.out]; kernel_rfl)) HS.out ?rest99
  go_simp
  refine wpAnyG_take (i := 12) (v := ?v12) rfl (by kernel_rfl) (fun _ _ _ h => h) (Or.inl ⟨by rfl, ?hy12⟩) HS.out ?rest12
  case hy12 => (intro ww _; go_simp; try with_reducible rfl)
  go_simp
  refine wpAnyG_take (i := 13) (v := ?v13) rfl (by kernel_rfl) (fun _ _ _ h => h) (Or.inl ⟨by rfl, ?hy13⟩) HS.out ?rest13
  case hy13 => (intro ww _; go_simp; try with_reducible rfl)
  go_simp
  refine wpAnyG_take (i := 14) (v := ?v14) rfl (by kernel_rfl) (fun _ _ _ h => h) (Or.inl ⟨by rfl, ?hy14⟩) HS.out ?rest14
  case hy14 => (intro ww _; go_simp; try with_reducible rfl)
  go_simp
  refine wpAnyG_take (i := 15) (v := ?v15) rfl (by kernel_rfl) (fun _ _ _ h => h) (Or.inl ⟨by rfl, ?hy15⟩) HS.out ?rest15
  case hy15 => (intro ww _; go_simp; try with_reducible rfl)
  go_simp
  refine wpAnyG_take (i := 16) (v := ?v16) rfl (by kernel_rfl) (fun _ _ _ h => h) (Or.inl ⟨by rfl, ?hy16⟩) HS.out ?rest16
  case hy16 => (intro ww hS; have y0 := pro_of hS HI3.out; go_simp; try with_reducible rfl)
  go_simp
  refine wpAnyG_all (rs := [17]) (by kernel_rfl) (by simp) ?_
  intro i hi
  obtain rfl := List.mem_singleton.1 hi
  clear hi
  refine wpOp_s rfl (by rfl) (fun K hK => ?_)
  go_simp
  refine (HQ.out _ _ HS.out).mono ?_
  rintro e w5 ⟨rfl, hb5⟩
  have H5 : Hid (LgM w5 N g ep am cm l v (ps.set i { p with ct := (c, .slice a2 c.2.2.2.length k2) }) ∧ But g w w5) := hid ⟨H3.out.1.keep ((Below.refl _ _).drew.trans hb5), H3.out.2.trans (But.of ((Below.refl _ _).drew.trans hb5))⟩
  have HS5 : Hid (SlA w5 g ep am cm l v (ps.set i { p with ct := (c, .slice a2 c.2.2.2.length k2) })) := hid H5.out.1.at_
  clear hb5
  refine hK _ _ ⟨fun _ => HS5.out, ?_⟩
  clear hK K
  go_simp
  refine wpAnyG_take (i := 18) (v := ?v17) rfl (by kernel_rfl) (fun _ _ _ h => h) (Or.inl ⟨by rfl, ?hy17⟩) HS5.out ?rest17
  case hy17 => (intro ww _; go_simp; try with_reducible rfl)
  go_simp
  refine wpAnyG_done (by kernel_rfl) ?_ _
  go_simp
  go_wp2
  first | go_end0 | refine bodyPost_ret (results_none rfl _ _ _) rfl ?_
  exact ⟨rfl, { p with ct := (c, .slice a2 c.2.2.2.length k2) }, by rw [show ps.set i _ = ps.set i _ from rfl]; exact H5.out.1, rfl, H5.out.2, fun _ _ => .inr (fresh_ct H2.out.2.2.2)⟩
theorem ssettle_any (N g : Nat) (ep : Int) (am : Option Addr) (cm : Nat) (l : List Int) (v : Int) (ps : List Pl) (i : Nat) (p : Pl) (w : World) (h : LgM w N g ep am cm l v ps) (hl : 0 < l.length) (hlm : l.length ≤ 1000) (he : 0 ≤ ep ∧ ep ≤ 60) (hv : 0 ≤ v ∧ v ≤ 15) (hi : ps[i]? = some p) (hsz : p.pro.size ≤ 64) :
    Calls Try.prog 48 #[.pointer (some ⟨g, 0, none⟩), .int .i64 (4 * ep + 1 + (i : Int))] w fun e w' => e = .returned (.tuple #[]) ∧ SetPost w w' N g ep am cm l v ps i (setl ep l.length v (4 * ep + 1 + (i : Int)) p.pp) := by
  by_cases hp : isPrep l.length p.pp = true
  · have e0 : setl ep l.length v (4 * ep + 1 + (i : Int)) p.pp = { p.pp with ct := if p.ct.1.2.2.2.length = 0 ∨ p.ct.1.1 ≠ v then certP ep v (4 * ep + 1 + (i : Int)) p.pp else p.ct.1, don := if p.don.size = 0 ∧ quoOk l.length p.com p.pro = true then p.pro else p.don } := by rw [setl, if_pos hp]; rfl
    rw [e0]
    by_cases hc : p.ct.1.2.2.2.length = 0
    · rw [if_pos (Or.inl hc)]
      by_cases hd : p.don.size = 0
      · cases hq : quoOk l.length p.com p.pro with
        | true => rw [if_pos ⟨hd, rfl⟩]; exact ssettle_none_quo N g ep am cm l v ps i p w h hl hlm he hv hi hsz hp hc hd hq
        | false => rw [if_neg (fun e => by cases e.2)]; exact ssettle_none_few N g ep am cm l v ps i p w h hl hlm he hv hi hsz hp hc hd hq
      · rw [if_neg (fun e => hd e.1)]; exact ssettle_none_don N g ep am cm l v ps i p w h hl hlm he hv hi hsz hp hc hd
    · by_cases hw : p.ct.1.1 = v
      · rw [if_neg (fun e => e.elim hc (fun e => e hw))]
        by_cases hd : p.don.size = 0
        · cases hq : quoOk l.length p.com p.pro with
          | true => rw [if_pos ⟨hd, rfl⟩]; exact ssettle_keep_quo N g ep am cm l v ps i p w h hl hlm he hv hi hsz hp hc hw hd hq
          | false => rw [if_neg (fun e => by cases e.2)]; exact ssettle_keep_few N g ep am cm l v ps i p w h hl hlm he hv hi hsz hp hc hw hd hq
        · rw [if_neg (fun e => hd e.1)]; exact ssettle_keep_don N g ep am cm l v ps i p w h hl hlm he hv hi hsz hp hc hw hd
      · rw [if_pos (Or.inr hw)]
        by_cases hd : p.don.size = 0
        · cases hq : quoOk l.length p.com p.pro with
          | true => rw [if_pos ⟨hd, rfl⟩]; exact ssettle_old_quo N g ep am cm l v ps i p w h hl hlm he hv hi hsz hp hc hw hd hq
          | false => rw [if_neg (fun e => by cases e.2)]; exact ssettle_old_few N g ep am cm l v ps i p w h hl hlm he hv hi hsz hp hc hw hd hq
        · rw [if_neg (fun e => hd e.1)]; exact ssettle_old_don N g ep am cm l v ps i p w h hl hlm he hv hi hsz hp hc hw hd
  · rw [setl, if_neg hp]
    exact ssettle_no N g ep am cm l v ps i p w h hl hlm he hv hi hsz (by simpa using hp)
end Go.Proofs.Ytohhlolmojeomaa
