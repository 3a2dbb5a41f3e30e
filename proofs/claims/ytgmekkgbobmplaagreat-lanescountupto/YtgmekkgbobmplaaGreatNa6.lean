/- Texts laid together: LnC ClI LnD TeG TmA. -/
import Derived.Test.YtgmekkgbobmplaaGreatNa5
import Derived.Lib.SliceRun
import Derived.Test.YtgmekkgbobmplaaGreatNa2
import Derived.Maps.AppendAt
import Derived.Maps.OwnSet
import Derived.DeepKeys4
/- The program's copies: rows of cells, slices.Clone, a list of signatures. -/
namespace Go.Proofs.YtgmekkgbobmplaaGreat
open Go.RowKit

theorem wrap_l3 {x : Int} (h0 : 0 ≤ x) (h1 : x ≤ 9223372036854775807) : IntKind.i64.wrap x = x := by
  rw [IntWalk.i64_left]
  exact IntWalk.wrap64_in x ⟨by omega, h1⟩
def sgS (p : Sg) : Prop := p.2.size ≤ 281474976710656
def sgsS (l : List Sg) : Prop := l.length * 24 ≤ 140737488355328 ∧ ∀ p, p ∈ l → sgS p
def ctS (c : Ct) : Prop := c.2.2.1.key.size ≤ 281474976710656 ∧ sgsS c.2.2.2
def cgS (c : Cg) : Prop := (c.2.2.1.length * 96 ≤ 140737488355328 ∧ ∀ x, x ∈ c.2.2.1 → ctS x) ∧ sgS c.2.2.2
def lnS (k : Ln) : Prop := k.1.2.length * 8 ≤ 140737488355328 ∧ sgsS k.2
def sigC (p : Sg) : List Value := [.int .i64 p.1, .string p.2]
def linkC (k : Ln) (v v2 : Value) : List Value := [.int .i64 k.1.1, v, v2]
theorem list_2 {x : List Value} {x0 x1 : Value} (h : x.length = 2) (h0 : x[0]? = some x0) (h1 : x[1]? = some x1) : x = [x0, x1] := by
  refine List.ext_getElem? (fun i => ?_)
  match i with
  | 0 => rw [h0]; rfl
  | 1 => rw [h1]; rfl
  | i + 2 => rw [List.getElem?_eq_none (by omega)]; rfl
theorem list_3 {x : List Value} {x0 x1 x2 : Value} (h : x.length = 3) (h0 : x[0]? = some x0) (h1 : x[1]? = some x1) (h2 : x[2]? = some x2) : x = [x0, x1, x2] := by
  refine List.ext_getElem? (fun i => ?_)
  match i with
  | 0 => rw [h0]; rfl
  | 1 => rw [h1]; rfl
  | 2 => rw [h2]; rfl
  | i + 3 => rw [List.getElem?_eq_none (by omega)]; rfl
theorem list_5 {x : List Value} {x0 x1 x2 x3 x4 : Value} (h : x.length = 5) (h0 : x[0]? = some x0) (h1 : x[1]? = some x1) (h2 : x[2]? = some x2) (h3 : x[3]? = some x3) (h4 : x[4]? = some x4) : x = [x0, x1, x2, x3, x4] := by
  refine List.ext_getElem? (fun i => ?_)
  match i with
  | 0 => rw [h0]; rfl
  | 1 => rw [h1]; rfl
  | 2 => rw [h2]; rfl
  | 3 => rw [h3]; rfl
  | 4 => rw [h4]; rfl
  | i + 5 => rw [List.getElem?_eq_none (by omega)]; rfl
theorem list_9 {x : List Value} {x0 x1 x2 x3 x4 x5 x6 x7 x8 : Value} (h : x.length = 9) (h0 : x[0]? = some x0) (h1 : x[1]? = some x1) (h2 : x[2]? = some x2) (h3 : x[3]? = some x3) (h4 : x[4]? = some x4) (h5 : x[5]? = some x5) (h6 : x[6]? = some x6) (h7 : x[7]? = some x7) (h8 : x[8]? = some x8) : x = [x0, x1, x2, x3, x4, x5, x6, x7, x8] := by
  refine List.ext_getElem? (fun i => ?_)
  match i with
  | 0 => rw [h0]; rfl
  | 1 => rw [h1]; rfl
  | 2 => rw [h2]; rfl
  | 3 => rw [h3]; rfl
  | 4 => rw [h4]; rfl
  | 5 => rw [h5]; rfl
  | 6 => rw [h6]; rfl
  | 7 => rw [h7]; rfl
  | 8 => rw [h8]; rfl
  | i + 9 => rw [List.getElem?_eq_none (by omega)]; rfl
theorem cellsSig {F : Nat → Prop} {w : World} {x : List Value} {c : Sg} (h : RowD F w x ((fun p : Sg => [Dat.i p.1, Dat.s p.2]) c)) : x = sigC c := by
  obtain ⟨h1, h2⟩ := h
  have hl : x.length = 2 := h1
  obtain ⟨u0, k0, r0⟩ := h2 0 _ rfl
  obtain ⟨u1, k1, r1⟩ := h2 1 _ rfl
  obtain rfl := r0.int
  obtain rfl := r1.str
  have hx : x = [_, _] := list_2 hl k0 k1
  exact hx
theorem rowdSig {F : Nat → Prop} {w : World} {c : Sg} : RowD F w (sigC c) ((fun p : Sg => [Dat.i p.1, Dat.s p.2]) c) := ⟨rfl, fun q d hd => by
  match q, hd with
  | 0, hd => cases hd; exact ⟨_, rfl, .i _⟩
  | 1, hd => cases hd; exact ⟨_, rfl, .s _⟩
  | q + 2, hd => cases hd⟩
theorem cellsCert {F : Nat → Prop} {w : World} {x : List Value} {c : Ct} (h : RowD F w x (dCt c)) : ∃ v : Value, x = ctC c v ∧ Reads F w v (dPairs c.2.2.2) := by
  obtain ⟨h1, h2⟩ := h
  have hl : x.length = 9 := h1
  obtain ⟨u0, k0, r0⟩ := h2 0 _ rfl
  obtain ⟨u1, k1, r1⟩ := h2 1 _ rfl
  obtain ⟨u2, k2, r2⟩ := h2 2 _ rfl
  obtain ⟨u3, k3, r3⟩ := h2 3 _ rfl
  obtain ⟨u4, k4, r4⟩ := h2 4 _ rfl
  obtain ⟨u5, k5, r5⟩ := h2 5 _ rfl
  obtain ⟨u6, k6, r6⟩ := h2 6 _ rfl
  obtain ⟨u7, k7, r7⟩ := h2 7 _ rfl
  obtain ⟨u8, k8, r8⟩ := h2 8 _ rfl
  obtain rfl := r0.int
  obtain rfl := r1.int
  obtain rfl := r2.int
  obtain rfl := r3.int
  obtain rfl := r4.int
  obtain rfl := r5.str
  obtain rfl := r6.flt
  obtain rfl := r7.int
  have hx : x = [_, _, _, _, _, _, _, _, u8] := list_9 hl k0 k1 k2 k3 k4 k5 k6 k7 k8
  exact ⟨u8, hx, r8⟩
theorem rowdCert {F : Nat → Prop} {w : World} {c : Ct} {v : Value} (h0 : Reads F w v (dPairs c.2.2.2)) : RowD F w (ctC c v) (dCt c) := ⟨rfl, fun q d hd => by
  match q, hd with
  | 0, hd => cases hd; exact ⟨_, rfl, .i _⟩
  | 1, hd => cases hd; exact ⟨_, rfl, .i _⟩
  | 2, hd => cases hd; exact ⟨_, rfl, .i _⟩
  | 3, hd => cases hd; exact ⟨_, rfl, .i _⟩
  | 4, hd => cases hd; exact ⟨_, rfl, .i _⟩
  | 5, hd => cases hd; exact ⟨_, rfl, .s _⟩
  | 6, hd => cases hd; exact ⟨_, rfl, .f _⟩
  | 7, hd => cases hd; exact ⟨_, rfl, .i _⟩
  | 8, hd => cases hd; exact ⟨_, rfl, h0⟩
  | q + 9, hd => cases hd⟩
theorem cellsChange {F : Nat → Prop} {w : World} {x : List Value} {c : Cg} (h : RowD F w x (dCg c)) : ∃ v : Value, x = cgC c v ∧ Reads F w v (dCts c.2.2.1) := by
  obtain ⟨h1, h2⟩ := h
  have hl : x.length = 5 := h1
  obtain ⟨u0, k0, r0⟩ := h2 0 _ rfl
  obtain ⟨u1, k1, r1⟩ := h2 1 _ rfl
  obtain ⟨u2, k2, r2⟩ := h2 2 _ rfl
  obtain ⟨u3, k3, r3⟩ := h2 3 _ rfl
  obtain ⟨u4, k4, r4⟩ := h2 4 _ rfl
  obtain rfl := r0.int
  obtain rfl := r1.int
  obtain rfl := r3.int
  obtain rfl := r4.str
  have hx : x = [_, _, u2, _, _] := list_5 hl k0 k1 k2 k3 k4
  exact ⟨u2, hx, r2⟩
theorem rowdChange {F : Nat → Prop} {w : World} {c : Cg} {v : Value} (h0 : Reads F w v (dCts c.2.2.1)) : RowD F w (cgC c v) (dCg c) := ⟨rfl, fun q d hd => by
  match q, hd with
  | 0, hd => cases hd; exact ⟨_, rfl, .i _⟩
  | 1, hd => cases hd; exact ⟨_, rfl, .i _⟩
  | 2, hd => cases hd; exact ⟨_, rfl, h0⟩
  | 3, hd => cases hd; exact ⟨_, rfl, .i _⟩
  | 4, hd => cases hd; exact ⟨_, rfl, .s _⟩
  | q + 5, hd => cases hd⟩
theorem cellsLink {F : Nat → Prop} {w : World} {x : List Value} {c : Ln} (h : RowD F w x (dLn c)) : ∃ v : Value, ∃ v2 : Value, x = linkC c v v2 ∧ Reads F w v (dInts c.1.2) ∧ Reads F w v2 (dPairs c.2) := by
  obtain ⟨h1, h2⟩ := h
  have hl : x.length = 3 := h1
  obtain ⟨u0, k0, r0⟩ := h2 0 _ rfl
  obtain ⟨u1, k1, r1⟩ := h2 1 _ rfl
  obtain ⟨u2, k2, r2⟩ := h2 2 _ rfl
  obtain rfl := r0.int
  have hx : x = [_, u1, u2] := list_3 hl k0 k1 k2
  exact ⟨u1, u2, hx, r1, r2⟩
theorem rowdLink {F : Nat → Prop} {w : World} {c : Ln} {v v2 : Value} (h0 : Reads F w v (dInts c.1.2)) (h1 : Reads F w v2 (dPairs c.2)) : RowD F w (linkC c v v2) (dLn c) := ⟨rfl, fun q d hd => by
  match q, hd with
  | 0, hd => cases hd; exact ⟨_, rfl, .i _⟩
  | 1, hd => cases hd; exact ⟨_, rfl, h0⟩
  | 2, hd => cases hd; exact ⟨_, rfl, h1⟩
  | q + 3, hd => cases hd⟩
theorem nInfoSig : (Tryz.prog.info? 87).map (fun i => (i.zero, i.size, i.bytes)) = some (some (.agg #[.int .i64 0, .string ⟨#[]⟩]), 2, 24) := by kernel_rfl
set_option maxRecDepth 100000 in
set_option maxHeartbeats 2000000 in
theorem ncloneSig_any {F : Nat → Prop} (es fs : List (List Dat)) (a : Option Addr) (n cap : Nat) (hw : ∀ e, e ∈ es → e.length = 2) (hm : es.length * 24 ≤ 140737488355328) (w : World) (hI : Reads F w (.slice a n cap) (.l 2 es)) :
    Calls Tryz.prog 131 #[.slice a n cap] w fun e w' => ∃ a1 c1, e = .returned (.slice a1 n c1) ∧ Below w.heap.size w w' ∧ (n = 0 ∨ ∃ b G X, a1 = some ⟨b, 0, none⟩ ∧ OlSt 87 2 b w w' es fs G X 0) := by
  have q22 : ∀ (w : World) (a : Option Addr) (n c n' c' : Nat), (binOp .eql 44 (.slice a n c) (.slice none n' c')).run Tryz.prog w = .ok (.bool a.isNone) w := fun w a n c n' c' => Lib.run_eql_slice_nil w _ _ a n c n' c' Tryz.underlying44
  cases a with
  | none =>
    obtain rfl : n = 0 := by cases hI; rfl
    clear hI hm hw
    go_enter Tryz.func131, Tryz.ntmps131
    go_wp2
    go_ret
    first | exact ⟨none, 0, rfl, Below.refl _ _, .inl rfl⟩ | exact ⟨none, ⟨0, rfl⟩, Below.refl _ _, .inl trivial⟩ | exact ⟨none, 0, rfl, Below.refl _ _, .inl trivial⟩ | exact ⟨none, ⟨0, rfl⟩, Below.refl _ _⟩ | exact ⟨⟨0, rfl⟩, Below.refl _ _, .inl trivial⟩
  | some ad =>
    obtain ⟨i0, hi0, hz0, hz1, hz2⟩ := info_parts nInfoSig
    obtain ⟨G, rfl, hgl, hgw, hgc, hgr⟩ := rows_of hI hw
    have HG := hid (And.intro hgl (And.intro hgw (And.intro hgc hgr)))
    have HN := hid hm
    clear hI hm hw hgl hgw hgc hgr
    go_enter Tryz.func131, Tryz.ntmps131
    go_wp2_with (at_builtin; refine wpList_append_own _ rfl _ _ 44 rfl w.heap.size 87 i0 (.agg #[.int .i64 0, .string ⟨#[]⟩]) 2 24 Tryz.underlying44 hi0 hz0 hz1 hz2 rfl (by decide) _ _ _ rfl (World.ownsRow_made w #[] 0 (Nat.le_refl _) (Nat.zero_le _) rfl) ad es.length cap G.flatten rfl ?qc1 ?qc2 ?qc3 ?qc4 ?qc5 ?qc6 ?_)
    case qc1 => rw [jn_len HG.out.2.1, HG.out.1]
    case qc2 =>
      intro j u hj
      exact Lib.cell?_alloc_some _ (HG.out.2.2.1 j u hj)
    case qc3 =>
      intro u hu
      obtain ⟨x, hx, hux⟩ := List.mem_flatten.1 hu
      obtain ⟨i, hi⟩ := List.mem_iff_getElem?.1 hx
      obtain ⟨y, hy, hr⟩ := HG.out.2.2.2 i _ (List.getElem?_eq_getElem (by rw [← HG.out.1]; exact (List.getElem?_eq_some_iff.1 hi).1))
      rw [hi] at hy
      cases hy
      exact hr.cell1 u hux
    case qc4 => have := HN.out; unfold maxLen; omega
    case qc5 => have := HN.out; omega
    case qc6 => simp
    intro v' w1 hown hgrow hnil
    have hb : Below w.heap.size w w1 := ((Below.refl _ w).alloc (Nat.le_refl _) _).grown hgrow (by simp) (by intro k hk; simp [Value.ownBlock] at hk; omega)
    have HO : Hid (w1.ownsRow w.heap.size 87 2 v' es.length G.flatten ∧ Below w.heap.size w w1) := hid ⟨by simpa using hown, hb⟩
    clear hown hgrow hnil hb
    obtain ⟨a1, c1, hv, hN⟩ : ∃ a1 c1, v' = .slice a1 es.length c1 ∧ (es.length = 0 ∨ ∃ b G X, a1 = some ⟨b, 0, none⟩ ∧ OlSt 87 2 b w w1 es fs G X 0) := by
      rcases OlSt.begin (fs := fs) HO.out.1 HO.out.2 rfl HG.out.1 HG.out.2.1 HG.out.2.2.2 with ⟨h0, a, c, hv⟩ | ⟨b, c, X, hv, hS⟩
      · exact ⟨a, c, by rw [hv, h0]; rfl, .inl (by rw [h0]; rfl)⟩
      · exact ⟨_, c, hv, .inr ⟨b, G, X, rfl, hS⟩⟩
    subst hv
    have HNw := hid hN
    clear hN
    go_wp2
    go_ret
    first | exact ⟨a1, c1, rfl, HO.out.2, HNw.out⟩ | exact ⟨a1, ⟨c1, rfl⟩, HO.out.2, HNw.out⟩
theorem nInfoCert : (Tryz.prog.info? 92).map (fun i => (i.zero, i.size, i.bytes)) = some (some (.agg #[.int .i64 0, .int .i64 0, .int .i64 0, .int .i64 0, .int .i64 0, .string ⟨#[]⟩, .float .f64 0, .int .i64 0, .slice none 0 0]), 9, 96) := by kernel_rfl
set_option maxRecDepth 100000 in
set_option maxHeartbeats 2000000 in
theorem ncloneCert_any {F : Nat → Prop} (es fs : List (List Dat)) (a : Option Addr) (n cap : Nat) (hw : ∀ e, e ∈ es → e.length = 9) (hm : es.length * 96 ≤ 140737488355328) (w : World) (hI : Reads F w (.slice a n cap) (.l 9 es)) :
    Calls Tryz.prog 132 #[.slice a n cap] w fun e w' => ∃ a1 c1, e = .returned (.slice a1 n c1) ∧ Below w.heap.size w w' ∧ (n = 0 ∨ ∃ b G X, a1 = some ⟨b, 0, none⟩ ∧ OlSt 92 9 b w w' es fs G X 0) := by
  have q22 : ∀ (w : World) (a : Option Addr) (n c n' c' : Nat), (binOp .eql 88 (.slice a n c) (.slice none n' c')).run Tryz.prog w = .ok (.bool a.isNone) w := fun w a n c n' c' => Lib.run_eql_slice_nil w _ _ a n c n' c' Tryz.underlying88
  cases a with
  | none =>
    obtain rfl : n = 0 := by cases hI; rfl
    clear hI hm hw
    go_enter Tryz.func132, Tryz.ntmps132
    go_wp2
    go_ret
    first | exact ⟨none, 0, rfl, Below.refl _ _, .inl rfl⟩ | exact ⟨none, ⟨0, rfl⟩, Below.refl _ _, .inl trivial⟩ | exact ⟨none, 0, rfl, Below.refl _ _, .inl trivial⟩ | exact ⟨none, ⟨0, rfl⟩, Below.refl _ _⟩ | exact ⟨⟨0, rfl⟩, Below.refl _ _, .inl trivial⟩
  | some ad =>
    obtain ⟨i0, hi0, hz0, hz1, hz2⟩ := info_parts nInfoCert
    obtain ⟨G, rfl, hgl, hgw, hgc, hgr⟩ := rows_of hI hw
    have HG := hid (And.intro hgl (And.intro hgw (And.intro hgc hgr)))
    have HN := hid hm
    clear hI hm hw hgl hgw hgc hgr
    go_enter Tryz.func132, Tryz.ntmps132
    go_wp2_with (at_builtin; refine wpList_append_own _ rfl _ _ 88 rfl w.heap.size 92 i0 (.agg #[.int .i64 0, .int .i64 0, .int .i64 0, .int .i64 0, .int .i64 0, .string ⟨#[]⟩, .float .f64 0, .int .i64 0, .slice none 0 0]) 9 96 Tryz.underlying88 hi0 hz0 hz1 hz2 rfl (by decide) _ _ _ rfl (World.ownsRow_made w #[] 0 (Nat.le_refl _) (Nat.zero_le _) rfl) ad es.length cap G.flatten rfl ?qc1 ?qc2 ?qc3 ?qc4 ?qc5 ?qc6 ?_)
    case qc1 => rw [jn_len HG.out.2.1, HG.out.1]
    case qc2 =>
      intro j u hj
      exact Lib.cell?_alloc_some _ (HG.out.2.2.1 j u hj)
    case qc3 =>
      intro u hu
      obtain ⟨x, hx, hux⟩ := List.mem_flatten.1 hu
      obtain ⟨i, hi⟩ := List.mem_iff_getElem?.1 hx
      obtain ⟨y, hy, hr⟩ := HG.out.2.2.2 i _ (List.getElem?_eq_getElem (by rw [← HG.out.1]; exact (List.getElem?_eq_some_iff.1 hi).1))
      rw [hi] at hy
      cases hy
      exact hr.cell1 u hux
    case qc4 => have := HN.out; unfold maxLen; omega
    case qc5 => have := HN.out; omega
    case qc6 => simp
    intro v' w1 hown hgrow hnil
    have hb : Below w.heap.size w w1 := ((Below.refl _ w).alloc (Nat.le_refl _) _).grown hgrow (by simp) (by intro k hk; simp [Value.ownBlock] at hk; omega)
    have HO : Hid (w1.ownsRow w.heap.size 92 9 v' es.length G.flatten ∧ Below w.heap.size w w1) := hid ⟨by simpa using hown, hb⟩
    clear hown hgrow hnil hb
    obtain ⟨a1, c1, hv, hN⟩ : ∃ a1 c1, v' = .slice a1 es.length c1 ∧ (es.length = 0 ∨ ∃ b G X, a1 = some ⟨b, 0, none⟩ ∧ OlSt 92 9 b w w1 es fs G X 0) := by
      rcases OlSt.begin (fs := fs) HO.out.1 HO.out.2 rfl HG.out.1 HG.out.2.1 HG.out.2.2.2 with ⟨h0, a, c, hv⟩ | ⟨b, c, X, hv, hS⟩
      · exact ⟨a, c, by rw [hv, h0]; rfl, .inl (by rw [h0]; rfl)⟩
      · exact ⟨_, c, hv, .inr ⟨b, G, X, rfl, hS⟩⟩
    subst hv
    have HNw := hid hN
    clear hN
    go_wp2
    go_ret
    first | exact ⟨a1, c1, rfl, HO.out.2, HNw.out⟩ | exact ⟨a1, ⟨c1, rfl⟩, HO.out.2, HNw.out⟩
theorem nInfoChange : (Tryz.prog.info? 90).map (fun i => (i.zero, i.size, i.bytes)) = some (some (.agg #[.int .i64 0, .int .i64 0, .slice none 0 0, .int .i64 0, .string ⟨#[]⟩]), 5, 64) := by kernel_rfl
set_option maxRecDepth 100000 in
set_option maxHeartbeats 2000000 in
theorem ncloneChange_any {F : Nat → Prop} (es fs : List (List Dat)) (a : Option Addr) (n cap : Nat) (hw : ∀ e, e ∈ es → e.length = 5) (hm : es.length * 64 ≤ 140737488355328) (w : World) (hI : Reads F w (.slice a n cap) (.l 5 es)) :
    Calls Tryz.prog 96 #[.slice a n cap] w fun e w' => ∃ a1 c1, e = .returned (.slice a1 n c1) ∧ Below w.heap.size w w' ∧ (n = 0 ∨ ∃ b G X, a1 = some ⟨b, 0, none⟩ ∧ OlSt 90 5 b w w' es fs G X 0) := by
  have q22 : ∀ (w : World) (a : Option Addr) (n c n' c' : Nat), (binOp .eql 45 (.slice a n c) (.slice none n' c')).run Tryz.prog w = .ok (.bool a.isNone) w := fun w a n c n' c' => Lib.run_eql_slice_nil w _ _ a n c n' c' Tryz.underlying45
  cases a with
  | none =>
    obtain rfl : n = 0 := by cases hI; rfl
    clear hI hm hw
    go_enter Tryz.func96, Tryz.ntmps96
    go_wp2
    go_ret
    first | exact ⟨none, 0, rfl, Below.refl _ _, .inl rfl⟩ | exact ⟨none, ⟨0, rfl⟩, Below.refl _ _, .inl trivial⟩ | exact ⟨none, 0, rfl, Below.refl _ _, .inl trivial⟩ | exact ⟨none, ⟨0, rfl⟩, Below.refl _ _⟩ | exact ⟨⟨0, rfl⟩, Below.refl _ _, .inl trivial⟩
  | some ad =>
    obtain ⟨i0, hi0, hz0, hz1, hz2⟩ := info_parts nInfoChange
    obtain ⟨G, rfl, hgl, hgw, hgc, hgr⟩ := rows_of hI hw
    have HG := hid (And.intro hgl (And.intro hgw (And.intro hgc hgr)))
    have HN := hid hm
    clear hI hm hw hgl hgw hgc hgr
    go_enter Tryz.func96, Tryz.ntmps96
    go_wp2_with (at_builtin; refine wpList_append_own _ rfl _ _ 45 rfl w.heap.size 90 i0 (.agg #[.int .i64 0, .int .i64 0, .slice none 0 0, .int .i64 0, .string ⟨#[]⟩]) 5 64 Tryz.underlying45 hi0 hz0 hz1 hz2 rfl (by decide) _ _ _ rfl (World.ownsRow_made w #[] 0 (Nat.le_refl _) (Nat.zero_le _) rfl) ad es.length cap G.flatten rfl ?qc1 ?qc2 ?qc3 ?qc4 ?qc5 ?qc6 ?_)
    case qc1 => rw [jn_len HG.out.2.1, HG.out.1]
    case qc2 =>
      intro j u hj
      exact Lib.cell?_alloc_some _ (HG.out.2.2.1 j u hj)
    case qc3 =>
      intro u hu
      obtain ⟨x, hx, hux⟩ := List.mem_flatten.1 hu
      obtain ⟨i, hi⟩ := List.mem_iff_getElem?.1 hx
      obtain ⟨y, hy, hr⟩ := HG.out.2.2.2 i _ (List.getElem?_eq_getElem (by rw [← HG.out.1]; exact (List.getElem?_eq_some_iff.1 hi).1))
      rw [hi] at hy
      cases hy
      exact hr.cell1 u hux
    case qc4 => have := HN.out; unfold maxLen; omega
    case qc5 => have := HN.out; omega
    case qc6 => simp
    intro v' w1 hown hgrow hnil
    have hb : Below w.heap.size w w1 := ((Below.refl _ w).alloc (Nat.le_refl _) _).grown hgrow (by simp) (by intro k hk; simp [Value.ownBlock] at hk; omega)
    have HO : Hid (w1.ownsRow w.heap.size 90 5 v' es.length G.flatten ∧ Below w.heap.size w w1) := hid ⟨by simpa using hown, hb⟩
    clear hown hgrow hnil hb
    obtain ⟨a1, c1, hv, hN⟩ : ∃ a1 c1, v' = .slice a1 es.length c1 ∧ (es.length = 0 ∨ ∃ b G X, a1 = some ⟨b, 0, none⟩ ∧ OlSt 90 5 b w w1 es fs G X 0) := by
      rcases OlSt.begin (fs := fs) HO.out.1 HO.out.2 rfl HG.out.1 HG.out.2.1 HG.out.2.2.2 with ⟨h0, a, c, hv⟩ | ⟨b, c, X, hv, hS⟩
      · exact ⟨a, c, by rw [hv, h0]; rfl, .inl (by rw [h0]; rfl)⟩
      · exact ⟨_, c, hv, .inr ⟨b, G, X, rfl, hS⟩⟩
    subst hv
    have HNw := hid hN
    clear hN
    go_wp2
    go_ret
    first | exact ⟨a1, c1, rfl, HO.out.2, HNw.out⟩ | exact ⟨a1, ⟨c1, rfl⟩, HO.out.2, HNw.out⟩
theorem nInfoLink : (Tryz.prog.info? 96).map (fun i => (i.zero, i.size, i.bytes)) = some (some (.agg #[.int .i64 0, .slice none 0 0, .slice none 0 0]), 3, 56) := by kernel_rfl
set_option maxRecDepth 100000 in
set_option maxHeartbeats 2000000 in
theorem ncloneLink_any {F : Nat → Prop} (es fs : List (List Dat)) (a : Option Addr) (n cap : Nat) (hw : ∀ e, e ∈ es → e.length = 3) (hm : es.length * 56 ≤ 140737488355328) (w : World) (hI : Reads F w (.slice a n cap) (.l 3 es)) :
    Calls Tryz.prog 99 #[.slice a n cap] w fun e w' => ∃ a1 c1, e = .returned (.slice a1 n c1) ∧ Below w.heap.size w w' ∧ (n = 0 ∨ ∃ b G X, a1 = some ⟨b, 0, none⟩ ∧ OlSt 96 3 b w w' es fs G X 0) := by
  have q22 : ∀ (w : World) (a : Option Addr) (n c n' c' : Nat), (binOp .eql 46 (.slice a n c) (.slice none n' c')).run Tryz.prog w = .ok (.bool a.isNone) w := fun w a n c n' c' => Lib.run_eql_slice_nil w _ _ a n c n' c' Tryz.underlying46
  cases a with
  | none =>
    obtain rfl : n = 0 := by cases hI; rfl
    clear hI hm hw
    go_enter Tryz.func99, Tryz.ntmps99
    go_wp2
    go_ret
    first | exact ⟨none, 0, rfl, Below.refl _ _, .inl rfl⟩ | exact ⟨none, ⟨0, rfl⟩, Below.refl _ _, .inl trivial⟩ | exact ⟨none, 0, rfl, Below.refl _ _, .inl trivial⟩ | exact ⟨none, ⟨0, rfl⟩, Below.refl _ _⟩ | exact ⟨⟨0, rfl⟩, Below.refl _ _, .inl trivial⟩
  | some ad =>
    obtain ⟨i0, hi0, hz0, hz1, hz2⟩ := info_parts nInfoLink
    obtain ⟨G, rfl, hgl, hgw, hgc, hgr⟩ := rows_of hI hw
    have HG := hid (And.intro hgl (And.intro hgw (And.intro hgc hgr)))
    have HN := hid hm
    clear hI hm hw hgl hgw hgc hgr
    go_enter Tryz.func99, Tryz.ntmps99
    go_wp2_with (at_builtin; refine wpList_append_own _ rfl _ _ 46 rfl w.heap.size 96 i0 (.agg #[.int .i64 0, .slice none 0 0, .slice none 0 0]) 3 56 Tryz.underlying46 hi0 hz0 hz1 hz2 rfl (by decide) _ _ _ rfl (World.ownsRow_made w #[] 0 (Nat.le_refl _) (Nat.zero_le _) rfl) ad es.length cap G.flatten rfl ?qc1 ?qc2 ?qc3 ?qc4 ?qc5 ?qc6 ?_)
    case qc1 => rw [jn_len HG.out.2.1, HG.out.1]
    case qc2 =>
      intro j u hj
      exact Lib.cell?_alloc_some _ (HG.out.2.2.1 j u hj)
    case qc3 =>
      intro u hu
      obtain ⟨x, hx, hux⟩ := List.mem_flatten.1 hu
      obtain ⟨i, hi⟩ := List.mem_iff_getElem?.1 hx
      obtain ⟨y, hy, hr⟩ := HG.out.2.2.2 i _ (List.getElem?_eq_getElem (by rw [← HG.out.1]; exact (List.getElem?_eq_some_iff.1 hi).1))
      rw [hi] at hy
      cases hy
      exact hr.cell1 u hux
    case qc4 => have := HN.out; unfold maxLen; omega
    case qc5 => have := HN.out; omega
    case qc6 => simp
    intro v' w1 hown hgrow hnil
    have hb : Below w.heap.size w w1 := ((Below.refl _ w).alloc (Nat.le_refl _) _).grown hgrow (by simp) (by intro k hk; simp [Value.ownBlock] at hk; omega)
    have HO : Hid (w1.ownsRow w.heap.size 96 3 v' es.length G.flatten ∧ Below w.heap.size w w1) := hid ⟨by simpa using hown, hb⟩
    clear hown hgrow hnil hb
    obtain ⟨a1, c1, hv, hN⟩ : ∃ a1 c1, v' = .slice a1 es.length c1 ∧ (es.length = 0 ∨ ∃ b G X, a1 = some ⟨b, 0, none⟩ ∧ OlSt 96 3 b w w1 es fs G X 0) := by
      rcases OlSt.begin (fs := fs) HO.out.1 HO.out.2 rfl HG.out.1 HG.out.2.1 HG.out.2.2.2 with ⟨h0, a, c, hv⟩ | ⟨b, c, X, hv, hS⟩
      · exact ⟨a, c, by rw [hv, h0]; rfl, .inl (by rw [h0]; rfl)⟩
      · exact ⟨_, c, hv, .inr ⟨b, G, X, rfl, hS⟩⟩
    subst hv
    have HNw := hid hN
    clear hN
    go_wp2
    go_ret
    first | exact ⟨a1, c1, rfl, HO.out.2, HNw.out⟩ | exact ⟨a1, ⟨c1, rfl⟩, HO.out.2, HNw.out⟩
set_option maxRecDepth 100000 in
set_option maxHeartbeats 3200000 in
theorem nlistSig_any {F : Nat → Prop} (l : List Sg) (a : Option Addr) (cap : Nat) (hm : l.length * 24 ≤ 140737488355328) (hl : ∀ c, c ∈ l → sgS c) (w : World) (hI : Reads F w (.slice a l.length cap) (.l 2 (l.map (fun p : Sg => [Dat.i p.1, Dat.s p.2])))) :
    Calls Tryz.prog 94 #[.slice a l.length cap, .func (.func 95) #[] #[]] w fun e w' => ∃ a1 c1, e = .returned (.slice a1 l.length c1) ∧ Reads (fun k => w.heap.size ≤ k) w' (.slice a1 l.length c1) (.l 2 (l.map (fun p : Sg => [Dat.i p.1, Dat.s p.2]))) ∧ Below w.heap.size w w' := by
  have hwd : ∀ e, e ∈ l.map (fun p : Sg => [Dat.i p.1, Dat.s p.2]) → e.length = 2 := fun e he => by
    obtain ⟨c, _, rfl⟩ := List.mem_map.1 he
    rfl
  have hwn : ∀ e, e ∈ l.map (fun p : Sg => [Dat.i p.1, Dat.s p.2]) → e.length = 2 := fun e he => by
    obtain ⟨c, _, rfl⟩ := List.mem_map.1 he
    rfl
  have HC := hid (ncloneSig_any (l.map (fun p : Sg => [Dat.i p.1, Dat.s p.2])) (l.map (fun p : Sg => [Dat.i p.1, Dat.s p.2])) a l.length cap hwd (by rw [List.length_map]; exact hm) w hI)
  have hll : (l.length : Int) ≤ 140737488355328 := by omega
  have HL := hid (And.intro hl (And.intro hwn hll))
  clear hm hl hI hwd hwn hll
  go_enter Tryz.func94, Tryz.ntmps94
  go_wp2_with (go_at_call 131; go_must (refine (HC.out).mono ?_; rintro e w1 ⟨a1, c1, rfl, hb, hS⟩; have H1 := hid (And.intro hb hS); clear hb hS))
  go_loopw [10] (fun i wr => ∃ (j : Nat), j ≤ l.length ∧ i = .int .i64 (j : Int) ∧ Below w.heap.size w wr ∧ (l.length = 0 ∨ ∃ b G X, a1 = some ⟨b, 0, none⟩ ∧ OlSt 87 2 b w wr (l.map (fun p : Sg => [Dat.i p.1, Dat.s p.2])) (l.map (fun p : Sg => [Dat.i p.1, Dat.s p.2])) G X j))
    (fun i _ => ((l.length : Int) - intOf i).toNat)
  case atStart => exact ⟨0, by omega, rfl, H1.out⟩
  case round =>
    obtain ⟨j, hj, rfl, hB, hS⟩ := hrel
    have HS := hid (And.intro hB hS)
    clear hB hS
    by_cases hjn : j = l.length
    · have hj1 : ¬ ((j : Int) < (l.length : Int)) := by omega
      have HJ := hid hjn
      clear hj hjn
      go_wp2
      go_ret
      have hfin : Reads (fun k => w.heap.size ≤ k) wr (.slice a1 l.length c1) (.l 2 (l.map (fun p : Sg => [Dat.i p.1, Dat.s p.2]))) := by
        rcases HS.out.2 with h0 | ⟨b, G, X, rfl, hS⟩
        · obtain rfl := List.eq_nil_of_length_eq_zero h0
          exact .nil _ _ _
        · have h2 := hS
          rw [HJ.out, show l.length = (l.map (fun p : Sg => [Dat.i p.1, Dat.s p.2])).length by simp] at h2
          have h3 := h2.all (by simp) HL.out.2.1 c1
          rw [List.length_map] at h3
          exact h3
      first | exact ⟨a1, c1, rfl, hfin, HS.out.1⟩ | exact ⟨a1, ⟨c1, rfl⟩, hfin, HS.out.1⟩ | exact ⟨_, _, rfl, hfin, HS.out.1⟩
    · have hj1 : (j : Int) < (l.length : Int) := by omega
      have hj0 : (0 : Int) ≤ (j : Int) := Int.natCast_nonneg _
      have hjw : IntKind.i64.wrap ((j : Int) + 1) = (j : Int) + 1 := wrap_l3 (by have := HL.out.2.2; omega) (by have := HL.out.2.2; omega)
      obtain ⟨c, hc⟩ : ∃ c, l[j]? = some c := ⟨_, List.getElem?_eq_getElem (by omega)⟩
      obtain ⟨hB, hS⟩ := HS.out
      obtain ⟨b, G, X, rfl, hT⟩ := hS.resolve_left (by omega)
      clear hS
      have hS := hT
      clear hT
      obtain ⟨x, hx, hR⟩ := hS.rest j ((fun p : Sg => [Dat.i p.1, Dat.s p.2]) c) (Nat.le_refl _) (by rw [List.getElem?_map, hc]; rfl)
      obtain rfl := cellsSig hR
      have HR := hid True.intro
      have H2 : Hid (OlSt 87 2 b w wr (l.map (fun p : Sg => [Dat.i p.1, Dat.s p.2])) (l.map (fun p : Sg => [Dat.i p.1, Dat.s p.2])) G X j ∧ G[j]? = some (sigC c)) := hid ⟨hS, hx⟩
      have HJ := hid (And.intro hj (And.intro hjn hc))
      have hlen : j * 2 + 2 ≤ (G.flatten ++ X).length := by
        have h1 := jn_len hS.wid
        have h2 := hS.len
        rw [List.length_map] at h2
        rw [List.length_append, h1, h2]
        omega
      have HLn := hid hlen
      clear hB hS hR hx hj hjn hc hlen 
      go_wp2_with (first
        | (have := H3; refine wl_store_blk rfl 87 _ _ rfl b (j * 2) rfl _ rfl (G.flatten ++ X) 87 H3.out.1.blk (by exact HLn.out) (by kernel_rfl) (by simp [Value.oneCell']) ?_; go_must (intro w3 Hz; have H4 := Hz; clear Hz))
        | (go_at_call 95; go_must (refine (nownSig_any _ _ (by first | exact HL.out.1 c (List.mem_of_getElem? HJ.out.2.2)) _).mono ?_; rintro e w2 ⟨rfl, hb⟩; have H3 : Hid (OlSt 87 2 b w w2 (l.map (fun p : Sg => [Dat.i p.1, Dat.s p.2])) (l.map (fun p : Sg => [Dat.i p.1, Dat.s p.2])) G X j ∧ Below wr.heap.size wr w2) := hid ⟨H2.out.1.keep hb, hb⟩; clear hb))
        | (refine wl_ldat rfl 87 _ rfl b (j * 2) rfl [.int .i64 c.1, .string c.2] (fun q u hu => H2.out.1.at H2.out.2 q u hu) _ Tryz.underlying87 rfl (by kernel_rfl) (.agg #[.int .i64 c.1, .string c.2]) rfl ?_))
      go_roundw
      case rel =>
        have hbb := lt_of_blk H2.out.1.blk
        have hsw := H2.out.1.bel.size
        have hj2 := HJ.out
        refine ⟨j + 1, by omega, by simp, H4.out.2.below H3.out.1.bel H3.out.1.low, .inr ⟨b, _, X, rfl, H3.out.1.put [.int .i64 c.1, .string c.2] ((fun p : Sg => [Dat.i p.1, Dat.s p.2]) c) (by rw [List.length_map]; omega) (by simp [hj2.2.2]) rfl ?_ H4.out.2 H4.out.1⟩⟩
        exact rowdSig (c := c)
      case measure => have := HJ.out; simp [intOf]; omega
theorem nownSigs_any {F : Nat → Prop} (l : List Sg) (a : Option Addr) (cap : Nat) (hl : sgsS l) (w : World) (hI : Reads F w (.slice a l.length cap) (dPairs l)) :
    Calls Tryz.prog 58 #[.slice a l.length cap] w fun e w' => ∃ a1 c1, e = .returned (.slice a1 l.length c1) ∧ Reads (fun k => w.heap.size ≤ k) w' (.slice a1 l.length c1) (dPairs l) ∧ Below w.heap.size w w' := by
  have HC := hid (nlistSig_any l a cap hl.1 hl.2 w hI)
  clear hl hI
  go_enter Tryz.func58, Tryz.ntmps58
  go_wp2_with (go_at_call 94; go_must (refine (HC.out).mono ?_; rintro e w1 ⟨a1, c1, rfl, hr, hb⟩; have H1 := hid (And.intro hr hb); clear hr hb))
  go_ret
  first | exact ⟨a1, c1, rfl, H1.out⟩ | exact ⟨a1, ⟨c1, rfl⟩, H1.out⟩ | exact ⟨_, _, rfl, H1.out⟩
end Go.Proofs.YtgmekkgbobmplaaGreat

/- slices.Clone of numbers: new memory. -/
namespace Go.Proofs.YtgmekkgbobmplaaGreat
open Go.RowKit

def Free (w : World) (k : Nat) : Prop := ∃ (cs : Array Value) (T : TypeId), w.heap[k]? = some (.cells cs T (0, 0))
theorem Free.lt {w : World} {k : Nat} (h : Free w k) : k < w.heap.size := by obtain ⟨_, _, h⟩ := h; exact lt_of_blk h
theorem Free.keep {w w' : World} {k : Nat} (h : Free w k) (hb : w'.heap[k]? = w.heap[k]?) : Free w' k := by obtain ⟨c, T, h⟩ := h; exact ⟨c, T, hb.trans h⟩
/-- A list of numbers in memory of its own, at block B or later, that may be written. -/
structure NewI (B : Nat) (w : World) (ad : Option Addr) (l : List Int) : Prop where
  ints : IntsIn w ad l
  far : ∀ x, ad = some x → B ≤ x.block ∧ Free w x.block
theorem NewI.keep {B : Nat} {w w' : World} {ad : Option Addr} {l : List Int} (h : NewI B w ad l) (hb : Below w.heap.size w w') : NewI B w' ad l :=
  ⟨h.ints.keep hb (Nat.le_refl _), fun x hx => ⟨(h.far x hx).1, (h.far x hx).2.keep (hb.block _ (h.far x hx).2.lt)⟩⟩
theorem OwnedI.slice {B : Nat} {w0 w : World} {v : Value} {zs : List Int} (h : OwnedI B w0 w v zs) : ∃ ad cap, v = .slice ad zs.length cap ∧ IntsIn w ad zs ∧ ∀ x, ad = some x → B ≤ x.block ∧ x.block < w.heap.size := by
  rcases h.own.2 with ⟨hv, h0⟩ | ⟨g, cap, cur, hv, hb, hh, hr⟩
  · exact ⟨none, 0, by rw [hv, h0], .inl (List.eq_nil_of_length_eq_zero h0), fun x hx => by cases hx⟩
  · refine ⟨_, cap, hv, .inr ⟨g, 0, rfl, lt_of_blk hh, fun j s hj => ?_⟩, fun x hx => by cases hx; exact ⟨hb, lt_of_blk hh⟩⟩
    subst hv
    have := h.own.cells (g := g) rfl j _ (iC_get zs j s hj)
    rwa [Addr.add_lit] at this
theorem OwnedI.new {B : Nat} {w0 w : World} {v : Value} {zs : List Int} (h : OwnedI B w0 w v zs) : ∃ ad cap, v = .slice ad zs.length cap ∧ NewI B w ad zs := by
  obtain ⟨ad, cap, hv, hi, _⟩ := h.slice
  refine ⟨ad, cap, hv, hi, fun x hx => ?_⟩
  rcases h.own.2 with ⟨hv2, h0⟩ | ⟨g, cap, cur, hv2, hb, hh, hr⟩
  · rw [hv, hx] at hv2; cases hv2
  · rw [hv, hx] at hv2; cases hv2; exact ⟨hb, _, _, hh⟩
set_option maxRecDepth 100000 in
set_option maxHeartbeats 2000000 in
theorem cloneInts_any (a : Option Addr) (n cap : Nat) (l : List Int) (hn : l.length = n) (hm : n * 8 ≤ 140737488355328) (w : World) (hI : IntsIn w a l) :
    Calls Tryz.prog 30 #[.slice a n cap] w fun e w' => ∃ a1 c1, e = .returned (.slice a1 n c1) ∧ NewI w.heap.size w' a1 l ∧ Below w.heap.size w w' := by
  have q22 : ∀ (w : World) (a : Option Addr) (n c n' c' : Nat), (binOp .eql 22 (.slice a n c) (.slice none n' c')).run Tryz.prog w = .ok (.bool a.isNone) w := fun w a n c n' c' => Lib.run_eql_slice_nil w _ _ a n c n' c' Tryz.underlying22
  cases a with
  | none =>
    obtain rfl : l = [] := by rcases hI with h | ⟨g, off, ha, _⟩; exact h; cases ha
    obtain rfl : 0 = n := hn
    clear hI hm
    go_enter Tryz.func30, Tryz.ntmps30
    go_wp2
    go_ret
    first | exact ⟨none, 0, rfl, ⟨.inl rfl, fun x hx => by cases hx⟩, Below.refl _ _⟩ | exact ⟨none, ⟨0, rfl⟩, ⟨.inl rfl, fun x hx => by cases hx⟩, Below.refl _ _⟩
  | some ad =>
    obtain ⟨i0, hi0, hz0, hz1, hz2⟩ := info_parts Tryz.info3
    have HP := hid hI
    have HN := hid (And.intro hn hm)
    clear hI hn hm
    go_enter Tryz.func30, Tryz.ntmps30
    go_wp2_with (at_builtin; refine wpList_append_own _ rfl _ _ 22 rfl w.heap.size 3 i0 (.int .i64 0) 1 8 Tryz.underlying22 hi0 hz0 hz1 hz2 rfl (by decide) _ _ _ rfl (World.ownsRow_made w #[] 0 (Nat.le_refl _) (Nat.zero_le _) rfl) ad n cap (iC l) rfl ?qc1 ?qc2 ?qc3 ?qc4 ?qc5 ?qc6 ?_)
    case qc1 => rw [iC_len, HN.out.1, Nat.mul_one]
    case qc2 =>
      intro j u hj
      obtain ⟨s, hs, rfl⟩ := iC_back l j u hj
      obtain ⟨g', off', eg, _, h1⟩ := HP.out.at j s hs
      cases eg
      rw [Addr.add_lit]
      exact Lib.cell?_alloc_some _ h1
    case qc3 => exact iC_one l
    case qc4 => have := HN.out.2; unfold maxLen; omega
    case qc5 => have := HN.out.2; omega
    case qc6 => simp
    intro v' w1 hown hgrow hnil
    have HO : Hid (OwnedI w.heap.size w w1 v' l) := hid ⟨by rw [HN.out.1]; simpa using hown, ((Below.refl _ w).alloc (Nat.le_refl _) _).grown hgrow (by simp) (by intro k hk; simp [Value.ownBlock] at hk; omega), by have := hgrow.size; simp at this; omega⟩
    clear hown hgrow hnil
    obtain ⟨a1, c1, hv, hN⟩ := HO.out.new
    rw [HN.out.1] at hv
    subst hv
    have HNw := hid hN
    clear hN
    go_wp2
    go_ret
    first | exact ⟨a1, c1, rfl, HNw.out, HO.out.bel⟩ | exact ⟨a1, ⟨c1, rfl⟩, HNw.out, HO.out.bel⟩

end Go.Proofs.YtgmekkgbobmplaaGreat

/- The program's copies: certificates, changes, links. -/
namespace Go.Proofs.YtgmekkgbobmplaaGreat
open Go.RowKit

set_option maxRecDepth 100000 in
set_option maxHeartbeats 3200000 in
theorem nownCert_any {F : Nat → Prop} (c : Ct) (hc : ctS c) (v : Value) (w : World) (hv : Reads F w v (dPairs c.2.2.2)) :
    Calls Tryz.prog 98 #[.agg #[.int .i64 c.1, .int .i64 c.2.1, .int .i64 c.2.2.1.c, .int .i64 c.2.2.1.st, .int .i64 c.2.2.1.k, .string c.2.2.1.key, .float .f64 c.2.2.1.b, .int .i64 c.2.2.1.id, v]] w fun e w' => ∃ v', e = .returned (.agg #[.int .i64 c.1, .int .i64 c.2.1, .int .i64 c.2.2.1.c, .int .i64 c.2.2.1.st, .int .i64 c.2.2.1.k, .string c.2.2.1.key, .float .f64 (canW c.2.2.1.b), .int .i64 c.2.2.1.id, v']) ∧ Reads (fun k => w.heap.size ≤ k) w' v' (dPairs c.2.2.2) ∧ Below w.heap.size w w' := by
  obtain ⟨a, k, rfl, _, _⟩ := reads_pairs hv
  obtain ⟨wa, ha, hb, hx, hz⟩ := two_newL [.int .i64 c.1, .int .i64 c.2.1, .int .i64 c.2.2.1.c, .int .i64 c.2.2.1.st, .int .i64 c.2.2.1.k, .string c.2.2.1.key, .float .f64 c.2.2.1.b, .int .i64 c.2.2.1.id, .slice a c.2.2.2.length k] [.int .i64 0, .int .i64 0, .int .i64 0, .int .i64 0, .int .i64 0, .string ⟨#[]⟩, .float .f64 0, .int .i64 0, .slice none 0 0] 92 92 w
  have HT := hid hc
  have HV := hid (fun (u : World) (hu : Below w.heap.size w u) => (hv).under hu (Nat.le_refl _))
  have HA := hid ha
  have S0 : Hid (Below w.heap.size w wa ∧ BxAt wa w.heap.size [.int .i64 c.1, .int .i64 c.2.1, .int .i64 c.2.2.1.c, .int .i64 c.2.2.1.st, .int .i64 c.2.2.1.k, .string c.2.2.1.key, .float .f64 c.2.2.1.b, .int .i64 c.2.2.1.id, .slice a c.2.2.2.length k] 92 ∧ BxAt wa (w.heap.size + 1) [.int .i64 0, .int .i64 0, .int .i64 0, .int .i64 0, .int .i64 0, .string ⟨#[]⟩, .float .f64 0, .int .i64 0, .slice none 0 0] 92) := hid ⟨hb, hx, hz⟩
  clear ha hb hx hz hc hv
  go_enter Tryz.func98, Tryz.ntmps98
  go_upto_region 1 with fail
  rw [HA.out]
  go_wp2_with (first
    | (have := S2; refine wl_store_blk rfl 92 _ _ rfl (w.heap.size + 1) 0 rfl _ rfl [.int .i64 0, .int .i64 0, .int .i64 0, .int .i64 0, .int .i64 0, .string ⟨#[]⟩, .float .f64 0, .int .i64 0, .slice none 0 0] 92 S2.out.2.2.1 (by simp) (by kernel_rfl) (by simp [Value.oneCell']) ?_; go_must (intro wz Hz; have SZ : Hid (BxAt wz (w.heap.size + 1) [.int .i64 c.1, .int .i64 c.2.1, .int .i64 c.2.2.1.c, .int .i64 c.2.2.1.st, .int .i64 c.2.2.1.k, .string c.2.2.1.key, .float .f64 (canW c.2.2.1.b), .int .i64 c.2.2.1.id, .slice a1 (c.2.2.2).length c1] 92 ∧ One (w.heap.size + 1) w2s wz) := hid Hz.out; clear Hz))
    | (have := S2; refine wl_loadB rfl 92 _ rfl w.heap.size 0 rfl [.int .i64 c.1, .int .i64 c.2.1, .int .i64 c.2.2.1.c, .int .i64 c.2.2.1.st, .int .i64 c.2.2.1.k, .string c.2.2.1.key, .float .f64 (canW c.2.2.1.b), .int .i64 c.2.2.1.id, .slice a1 (c.2.2.2).length c1] 92 S2.out.2.1 _ Tryz.underlying92 rfl (by kernel_rfl) (.agg #[.int .i64 c.1, .int .i64 c.2.1, .int .i64 c.2.2.1.c, .int .i64 c.2.2.1.st, .int .i64 c.2.2.1.k, .string c.2.2.1.key, .float .f64 (canW c.2.2.1.b), .int .i64 c.2.2.1.id, .slice a1 (c.2.2.2).length c1]) rfl rfl ?_)
    | (have := C2; refine wl_stone rfl 44 _ _ rfl w.heap.size 8 rfl (.slice a1 (c.2.2.2).length c1) rfl rfl rfl [.int .i64 c.1, .int .i64 c.2.1, .int .i64 c.2.2.1.c, .int .i64 c.2.2.1.st, .int .i64 c.2.2.1.k, .string c.2.2.1.key, .float .f64 (canW c.2.2.1.b), .int .i64 c.2.2.1.id, .slice a c.2.2.2.length k] 92 C2.out.2.1 (by simp) (by kernel_rfl) ?_; go_must (intro w2s Hz; have S2 : Hid (Below w.heap.size w w2s ∧ BxAt w2s w.heap.size [.int .i64 c.1, .int .i64 c.2.1, .int .i64 c.2.2.1.c, .int .i64 c.2.2.1.st, .int .i64 c.2.2.1.k, .string c.2.2.1.key, .float .f64 (canW c.2.2.1.b), .int .i64 c.2.2.1.id, .slice a1 (c.2.2.2).length c1] 92 ∧ BxAt w2s (w.heap.size + 1) [.int .i64 0, .int .i64 0, .int .i64 0, .int .i64 0, .int .i64 0, .string ⟨#[]⟩, .float .f64 0, .int .i64 0, .slice none 0 0] 92 ∧ Reads (fun k => w.heap.size + 2 ≤ k) w2s (.slice a1 (c.2.2.2).length c1) (dPairs (c.2.2.2))) := hid ⟨Hz.out.2.below C2.out.1 (Nat.le_refl _), Hz.out.1, (Hz.out.2.block _ (by omega)).trans C2.out.2.2.1, (C2.out.2.2.2).keep (Nat.le_of_eq Hz.out.2.size.symm) (fun k _ hk => Hz.out.2.block k (by have hk : w.heap.size + 2 ≤ k := hk; omega))⟩; clear Hz))
    | (have := S1; go_at_call 58; go_must (refine (nownSigs_any (c.2.2.2) a k HT.out.2 _ (HV.out _ S1.out.1)).mono ?_; rintro e w2 ⟨a1, c1, rfl, hr, hb⟩; have hB := S1.out.1; have C2 : Hid (Below w.heap.size w w2 ∧ BxAt w2 w.heap.size [.int .i64 c.1, .int .i64 c.2.1, .int .i64 c.2.2.1.c, .int .i64 c.2.2.1.st, .int .i64 c.2.2.1.k, .string c.2.2.1.key, .float .f64 (canW c.2.2.1.b), .int .i64 c.2.2.1.id, .slice a c.2.2.2.length k] 92 ∧ BxAt w2 (w.heap.size + 1) [.int .i64 0, .int .i64 0, .int .i64 0, .int .i64 0, .int .i64 0, .string ⟨#[]⟩, .float .f64 0, .int .i64 0, .slice none 0 0] 92 ∧ Reads (fun k => w.heap.size + 2 ≤ k) w2 (.slice a1 (c.2.2.2).length c1) (dPairs (c.2.2.2))) := hid ⟨hB.trans (hb.mono hB.size), S1.out.2.1.keep hb, S1.out.2.2.keep hb, hr.mono (fun k _ hk => by have h9 := lt_of_blk S1.out.2.2; have hk : _ ≤ k := hk; show w.heap.size + 2 ≤ k; omega)⟩; clear hb hB; clear hr))
    | (have := C1; refine wl_store_blk rfl 41 _ _ rfl w.heap.size 2 rfl _ rfl [.int .i64 c.1, .int .i64 c.2.1, .int .i64 c.2.2.1.c, .int .i64 c.2.2.1.st, .int .i64 c.2.2.1.k, .string c.2.2.1.key, .float .f64 c.2.2.1.b, .int .i64 c.2.2.1.id, .slice a c.2.2.2.length k] 92 C1.out.2.1 (by simp) (by kernel_rfl) (by simp [Value.oneCell']) ?_; go_must (intro w1s Hz; have S1 : Hid (Below w.heap.size w w1s ∧ BxAt w1s w.heap.size [.int .i64 c.1, .int .i64 c.2.1, .int .i64 c.2.2.1.c, .int .i64 c.2.2.1.st, .int .i64 c.2.2.1.k, .string c.2.2.1.key, .float .f64 (canW c.2.2.1.b), .int .i64 c.2.2.1.id, .slice a c.2.2.2.length k] 92 ∧ BxAt w1s (w.heap.size + 1) [.int .i64 0, .int .i64 0, .int .i64 0, .int .i64 0, .int .i64 0, .string ⟨#[]⟩, .float .f64 0, .int .i64 0, .slice none 0 0] 92) := hid ⟨Hz.out.2.below C1.out.1 (Nat.le_refl _), Hz.out.1, (Hz.out.2.block _ (by omega)).trans C1.out.2.2⟩; clear Hz; have z8 := S1.out.2.1.cell 8 _ rfl))
    | (have := S0; go_at_call 55; go_must (refine (nownRq_any (c.2.2.1) (by exact HT.out.1) _).mono ?_; rintro e w1 ⟨rfl, hb⟩; have hB := S0.out.1; have C1 : Hid (Below w.heap.size w w1 ∧ BxAt w1 w.heap.size [.int .i64 c.1, .int .i64 c.2.1, .int .i64 c.2.2.1.c, .int .i64 c.2.2.1.st, .int .i64 c.2.2.1.k, .string c.2.2.1.key, .float .f64 c.2.2.1.b, .int .i64 c.2.2.1.id, .slice a c.2.2.2.length k] 92 ∧ BxAt w1 (w.heap.size + 1) [.int .i64 0, .int .i64 0, .int .i64 0, .int .i64 0, .int .i64 0, .string ⟨#[]⟩, .float .f64 0, .int .i64 0, .slice none 0 0] 92) := hid ⟨hB.trans (hb.mono hB.size), S0.out.2.1.keep hb, S0.out.2.2.keep hb⟩; clear hb hB))
    | (have := S0; refine wl_ldat rfl 41 _ rfl w.heap.size 2 rfl [.int .i64 c.2.2.1.c, .int .i64 c.2.2.1.st, .int .i64 c.2.2.1.k, .string c.2.2.1.key, .float .f64 c.2.2.1.b, .int .i64 c.2.2.1.id] (fun j v hv => by rw [show w.heap.size = w.heap.size from rfl]; exact sub_cell S0.out.2.1 2 _ (by rfl) j v hv) _ Tryz.underlying41 rfl (by kernel_rfl) (.agg #[.int .i64 c.2.2.1.c, .int .i64 c.2.2.1.st, .int .i64 c.2.2.1.k, .string c.2.2.1.key, .float .f64 c.2.2.1.b, .int .i64 c.2.2.1.id]) rfl ?_))
  refine ret_cell1 (s := 2) (ad := ⟨w.heap.size + 1, 0, none⟩) rfl rfl (load_whole SZ.out.1 _ Tryz.underlying92 rfl (by kernel_rfl)) rfl ?_
  have hBz : Below w.heap.size w wz := SZ.out.2.below S2.out.1 (by omega)
  have hE0 := (S2.out.2.2.2).keep (Nat.le_of_eq SZ.out.2.size.symm) (fun k _ hk => SZ.out.2.block k (by have hk : w.heap.size + 2 ≤ k := hk; omega))
  exact ⟨_, rfl, hE0.mono (fun k _ hk => by have hk : w.heap.size + 2 ≤ k := hk; show w.heap.size ≤ k; omega), hBz⟩
set_option maxRecDepth 100000 in
set_option maxHeartbeats 3200000 in
theorem nlistCert_any {F : Nat → Prop} (l : List Ct) (a : Option Addr) (cap : Nat) (hm : l.length * 96 ≤ 140737488355328) (hl : ∀ c, c ∈ l → ctS c) (w : World) (hI : Reads F w (.slice a l.length cap) (.l 9 (l.map dCt))) :
    Calls Tryz.prog 97 #[.slice a l.length cap, .func (.func 98) #[] #[]] w fun e w' => ∃ a1 c1, e = .returned (.slice a1 l.length c1) ∧ Reads (fun k => w.heap.size ≤ k) w' (.slice a1 l.length c1) (.l 9 ((l.map nCt).map dCt)) ∧ Below w.heap.size w w' := by
  have hwd : ∀ e, e ∈ l.map dCt → e.length = 9 := fun e he => by
    obtain ⟨c, _, rfl⟩ := List.mem_map.1 he
    rfl
  have hwn : ∀ e, e ∈ (l.map nCt).map dCt → e.length = 9 := fun e he => by
    obtain ⟨c, _, rfl⟩ := List.mem_map.1 he
    rfl
  have HC := hid (ncloneCert_any (l.map dCt) ((l.map nCt).map dCt) a l.length cap hwd (by rw [List.length_map]; exact hm) w hI)
  have hll : (l.length : Int) ≤ 140737488355328 := by omega
  have HL := hid (And.intro hl (And.intro hwn hll))
  obtain ⟨fs, hfs⟩ : ∃ fs, fs = (l.map nCt).map dCt := ⟨_, rfl⟩
  rw [← hfs] at HC HL ⊢
  have HF := hid hfs
  clear hm hl hI hwd hwn hll hfs
  go_enter Tryz.func97, Tryz.ntmps97
  go_wp2_with (go_at_call 132; go_must (refine (HC.out).mono ?_; rintro e w1 ⟨a1, c1, rfl, hb, hS⟩; have H1 := hid (And.intro hb hS); clear hb hS))
  go_loopw [10] (fun i wr => ∃ (j : Nat), j ≤ l.length ∧ i = .int .i64 (j : Int) ∧ Below w.heap.size w wr ∧ (l.length = 0 ∨ ∃ b G X, a1 = some ⟨b, 0, none⟩ ∧ OlSt 92 9 b w wr (l.map dCt) fs G X j))
    (fun i _ => ((l.length : Int) - intOf i).toNat)
  case atStart => exact ⟨0, by omega, rfl, H1.out⟩
  case round =>
    obtain ⟨j, hj, rfl, hB, hS⟩ := hrel
    have HS := hid (And.intro hB hS)
    clear hB hS
    by_cases hjn : j = l.length
    · have hj1 : ¬ ((j : Int) < (l.length : Int)) := by omega
      have HJ := hid hjn
      clear hj hjn
      go_wp2
      go_ret
      have hfin : Reads (fun k => w.heap.size ≤ k) wr (.slice a1 l.length c1) (.l 9 fs) := by
        rcases HS.out.2 with h0 | ⟨b, G, X, rfl, hS⟩
        · obtain rfl := List.eq_nil_of_length_eq_zero h0
          have hf0 : fs = [] := HF.out
          rw [hf0]
          exact .nil _ _ _
        · have h2 := hS
          rw [HJ.out, show l.length = (l.map dCt).length by simp] at h2
          have h3 := h2.all (by rw [HF.out]; simp) HL.out.2.1 c1
          rw [List.length_map] at h3
          exact h3
      first | exact ⟨a1, c1, rfl, hfin, HS.out.1⟩ | exact ⟨a1, ⟨c1, rfl⟩, hfin, HS.out.1⟩ | exact ⟨_, _, rfl, hfin, HS.out.1⟩
    · have hj1 : (j : Int) < (l.length : Int) := by omega
      have hj0 : (0 : Int) ≤ (j : Int) := Int.natCast_nonneg _
      have hjw : IntKind.i64.wrap ((j : Int) + 1) = (j : Int) + 1 := wrap_l3 (by have := HL.out.2.2; omega) (by have := HL.out.2.2; omega)
      obtain ⟨c, hc⟩ : ∃ c, l[j]? = some c := ⟨_, List.getElem?_eq_getElem (by omega)⟩
      obtain ⟨hB, hS⟩ := HS.out
      obtain ⟨b, G, X, rfl, hT⟩ := hS.resolve_left (by omega)
      clear hS
      have hS := hT
      clear hT
      obtain ⟨x, hx, hR⟩ := hS.rest j (dCt c) (Nat.le_refl _) (by rw [List.getElem?_map, hc]; rfl)
      obtain ⟨v, rfl, hr0⟩ := cellsCert hR
      have HR := hid hr0
      have H2 : Hid (OlSt 92 9 b w wr (l.map dCt) fs G X j ∧ G[j]? = some (ctC c v)) := hid ⟨hS, hx⟩
      have HJ := hid (And.intro hj (And.intro hjn hc))
      have hlen : j * 9 + 9 ≤ (G.flatten ++ X).length := by
        have h1 := jn_len hS.wid
        have h2 := hS.len
        rw [List.length_map] at h2
        rw [List.length_append, h1, h2]
        omega
      have HLn := hid hlen
      clear hB hS hR hx hj hjn hc hlen hr0
      go_wp2_with (first
        | (have := H3; refine wl_store_blk rfl 92 _ _ rfl b (j * 9) rfl _ rfl (G.flatten ++ X) 92 H3.out.1.blk (by exact HLn.out) (by kernel_rfl) (by have h9 := H3.out.2.2.cell1; revert h9; cases v' <;> simp [Value.oneCell']) ?_; go_must (intro w3 Hz; have H4 := Hz; clear Hz))
        | (go_at_call 98; go_must (refine (nownCert_any c (HL.out.1 c (List.mem_of_getElem? HJ.out.2.2)) v _ HR.out).mono ?_; rintro e w2 ⟨v', rfl, hr, hb⟩; have H3 : Hid (OlSt 92 9 b w w2 (l.map dCt) fs G X j ∧ Below wr.heap.size wr w2 ∧ Reads (fun k => wr.heap.size ≤ k) w2 v' (dPairs c.2.2.2)) := hid ⟨H2.out.1.keep hb, hb, hr⟩; clear hb hr))
        | (refine wl_ldat rfl 92 _ rfl b (j * 9) rfl [.int .i64 c.1, .int .i64 c.2.1, .int .i64 c.2.2.1.c, .int .i64 c.2.2.1.st, .int .i64 c.2.2.1.k, .string c.2.2.1.key, .float .f64 c.2.2.1.b, .int .i64 c.2.2.1.id, v] (fun q u hu => H2.out.1.at H2.out.2 q u hu) _ Tryz.underlying92 rfl (by kernel_rfl) (.agg #[.int .i64 c.1, .int .i64 c.2.1, .int .i64 c.2.2.1.c, .int .i64 c.2.2.1.st, .int .i64 c.2.2.1.k, .string c.2.2.1.key, .float .f64 c.2.2.1.b, .int .i64 c.2.2.1.id, v]) rfl ?_))
      go_roundw
      case rel =>
        have hbb := lt_of_blk H2.out.1.blk
        have hsw := H2.out.1.bel.size
        have hj2 := HJ.out
        refine ⟨j + 1, by omega, by simp, H4.out.2.below H3.out.1.bel H3.out.1.low, .inr ⟨b, _, X, rfl, H3.out.1.put [.int .i64 c.1, .int .i64 c.2.1, .int .i64 c.2.2.1.c, .int .i64 c.2.2.1.st, .int .i64 c.2.2.1.k, .string c.2.2.1.key, .float .f64 (canW c.2.2.1.b), .int .i64 c.2.2.1.id, v'] (dCt (nCt c)) (by rw [List.length_map]; omega) (by rw [HF.out]; simp [hj2.2.2]) rfl ?_ H4.out.2 H4.out.1⟩⟩
        exact rowdCert (c := (nCt c)) (H3.out.2.2.mono (fun k _ hk => ⟨Nat.le_trans hsw hk, by have hk : wr.heap.size ≤ k := hk; omega⟩))
      case measure => have := HJ.out; simp [intOf]; omega
set_option maxRecDepth 100000 in
set_option maxHeartbeats 3200000 in
theorem nownChange_any {F : Nat → Prop} (c : Cg) (hc : cgS c) (v : Value) (w : World) (hv : Reads F w v (dCts c.2.2.1)) :
    Calls Tryz.prog 60 #[.agg #[.int .i64 c.1, .int .i64 c.2.1, v, .int .i64 c.2.2.2.1, .string c.2.2.2.2]] w fun e w' => ∃ v', e = .returned (.agg #[.int .i64 c.1, .int .i64 c.2.1, v', .int .i64 c.2.2.2.1, .string c.2.2.2.2]) ∧ Reads (fun k => w.heap.size ≤ k) w' v' (dCts (c.2.2.1.map nCt)) ∧ Below w.heap.size w w' := by
  obtain ⟨a, k, hva⟩ := hv.form
  rw [List.length_map] at hva
  subst hva
  obtain ⟨wa, ha, hb, hx, hz⟩ := two_newL [.int .i64 c.1, .int .i64 c.2.1, .slice a c.2.2.1.length k, .int .i64 c.2.2.2.1, .string c.2.2.2.2] [.int .i64 0, .int .i64 0, .slice none 0 0, .int .i64 0, .string ⟨#[]⟩] 90 90 w
  have HT := hid hc
  have HV := hid (fun (u : World) (hu : Below w.heap.size w u) => (hv).under hu (Nat.le_refl _))
  have HA := hid ha
  have S0 : Hid (Below w.heap.size w wa ∧ BxAt wa w.heap.size [.int .i64 c.1, .int .i64 c.2.1, .slice a c.2.2.1.length k, .int .i64 c.2.2.2.1, .string c.2.2.2.2] 90 ∧ BxAt wa (w.heap.size + 1) [.int .i64 0, .int .i64 0, .slice none 0 0, .int .i64 0, .string ⟨#[]⟩] 90) := hid ⟨hb, hx, hz⟩
  clear ha hb hx hz hc hv
  have z2 := S0.out.2.1.cell 2 _ rfl
  go_enter Tryz.func60, Tryz.ntmps60
  go_upto_region 1 with fail
  rw [HA.out]
  go_wp2_with (first
    | (have := S2; refine wl_store_blk rfl 90 _ _ rfl (w.heap.size + 1) 0 rfl _ rfl [.int .i64 0, .int .i64 0, .slice none 0 0, .int .i64 0, .string ⟨#[]⟩] 90 S2.out.2.2.1 (by simp) (by kernel_rfl) (by simp [Value.oneCell']) ?_; go_must (intro wz Hz; have SZ : Hid (BxAt wz (w.heap.size + 1) [.int .i64 c.1, .int .i64 c.2.1, .slice a1 c.2.2.1.length c1, .int .i64 c.2.2.2.1, .string c.2.2.2.2] 90 ∧ One (w.heap.size + 1) w2s wz) := hid Hz.out; clear Hz))
    | (have := S2; refine wl_loadB rfl 90 _ rfl w.heap.size 0 rfl [.int .i64 c.1, .int .i64 c.2.1, .slice a1 c.2.2.1.length c1, .int .i64 c.2.2.2.1, .string c.2.2.2.2] 90 S2.out.2.1 _ Tryz.underlying90 rfl (by kernel_rfl) (.agg #[.int .i64 c.1, .int .i64 c.2.1, .slice a1 c.2.2.1.length c1, .int .i64 c.2.2.2.1, .string c.2.2.2.2]) rfl rfl ?_)
    | (have := C2; refine wl_store_blk rfl 87 _ _ rfl w.heap.size 3 rfl _ rfl [.int .i64 c.1, .int .i64 c.2.1, .slice a1 c.2.2.1.length c1, .int .i64 c.2.2.2.1, .string c.2.2.2.2] 90 C2.out.2.1 (by simp) (by kernel_rfl) (by simp [Value.oneCell']) ?_; go_must (intro w2s Hz; have S2 : Hid (Below w.heap.size w w2s ∧ BxAt w2s w.heap.size [.int .i64 c.1, .int .i64 c.2.1, .slice a1 c.2.2.1.length c1, .int .i64 c.2.2.2.1, .string c.2.2.2.2] 90 ∧ BxAt w2s (w.heap.size + 1) [.int .i64 0, .int .i64 0, .slice none 0 0, .int .i64 0, .string ⟨#[]⟩] 90 ∧ Reads (fun k => w.heap.size + 2 ≤ k) w2s (.slice a1 c.2.2.1.length c1) (dCts (c.2.2.1.map nCt))) := hid ⟨Hz.out.2.below C2.out.1 (Nat.le_refl _), Hz.out.1, (Hz.out.2.block _ (by omega)).trans C2.out.2.2.1, (C2.out.2.2.2).keep (Nat.le_of_eq Hz.out.2.size.symm) (fun k _ hk => Hz.out.2.block k (by have hk : w.heap.size + 2 ≤ k := hk; omega))⟩; clear Hz))
    | (have := S1; go_at_call 95; go_must (refine (nownSig_any _ _ HT.out.2 _).mono ?_; rintro e w2 ⟨rfl, hb⟩; have hB := S1.out.1; have C2 : Hid (Below w.heap.size w w2 ∧ BxAt w2 w.heap.size [.int .i64 c.1, .int .i64 c.2.1, .slice a1 c.2.2.1.length c1, .int .i64 c.2.2.2.1, .string c.2.2.2.2] 90 ∧ BxAt w2 (w.heap.size + 1) [.int .i64 0, .int .i64 0, .slice none 0 0, .int .i64 0, .string ⟨#[]⟩] 90 ∧ Reads (fun k => w.heap.size + 2 ≤ k) w2 (.slice a1 c.2.2.1.length c1) (dCts (c.2.2.1.map nCt))) := hid ⟨hB.trans (hb.mono hB.size), S1.out.2.1.keep hb, S1.out.2.2.1.keep hb, (S1.out.2.2.2).under hb (Nat.le_refl _)⟩; clear hb hB))
    | (have := S1; refine wl_ldat rfl 87 _ rfl w.heap.size 3 rfl [.int .i64 c.2.2.2.1, .string c.2.2.2.2] (fun j v hv => by rw [show w.heap.size = w.heap.size from rfl]; exact sub_cell S1.out.2.1 3 _ (by rfl) j v hv) _ Tryz.underlying87 rfl (by kernel_rfl) (.agg #[.int .i64 c.2.2.2.1, .string c.2.2.2.2]) rfl ?_)
    | (have := C1; refine wl_stone rfl 88 _ _ rfl w.heap.size 2 rfl (.slice a1 c.2.2.1.length c1) rfl rfl rfl [.int .i64 c.1, .int .i64 c.2.1, .slice a c.2.2.1.length k, .int .i64 c.2.2.2.1, .string c.2.2.2.2] 90 C1.out.2.1 (by simp) (by kernel_rfl) ?_; go_must (intro w1s Hz; have S1 : Hid (Below w.heap.size w w1s ∧ BxAt w1s w.heap.size [.int .i64 c.1, .int .i64 c.2.1, .slice a1 c.2.2.1.length c1, .int .i64 c.2.2.2.1, .string c.2.2.2.2] 90 ∧ BxAt w1s (w.heap.size + 1) [.int .i64 0, .int .i64 0, .slice none 0 0, .int .i64 0, .string ⟨#[]⟩] 90 ∧ Reads (fun k => w.heap.size + 2 ≤ k) w1s (.slice a1 c.2.2.1.length c1) (dCts (c.2.2.1.map nCt))) := hid ⟨Hz.out.2.below C1.out.1 (Nat.le_refl _), Hz.out.1, (Hz.out.2.block _ (by omega)).trans C1.out.2.2.1, (C1.out.2.2.2).keep (Nat.le_of_eq Hz.out.2.size.symm) (fun k _ hk => Hz.out.2.block k (by have hk : w.heap.size + 2 ≤ k := hk; omega))⟩; clear Hz))
    | (have := S0; go_at_call 97; go_must (refine (nlistCert_any c.2.2.1 a k HT.out.1.1 HT.out.1.2 _ (HV.out _ S0.out.1)).mono ?_; rintro e w1 ⟨a1, c1, rfl, hr, hb⟩; have hB := S0.out.1; have C1 : Hid (Below w.heap.size w w1 ∧ BxAt w1 w.heap.size [.int .i64 c.1, .int .i64 c.2.1, .slice a c.2.2.1.length k, .int .i64 c.2.2.2.1, .string c.2.2.2.2] 90 ∧ BxAt w1 (w.heap.size + 1) [.int .i64 0, .int .i64 0, .slice none 0 0, .int .i64 0, .string ⟨#[]⟩] 90 ∧ Reads (fun k => w.heap.size + 2 ≤ k) w1 (.slice a1 c.2.2.1.length c1) (dCts (c.2.2.1.map nCt))) := hid ⟨hB.trans (hb.mono hB.size), S0.out.2.1.keep hb, S0.out.2.2.keep hb, hr.mono (fun k _ hk => by have h9 := lt_of_blk S0.out.2.2; have hk : _ ≤ k := hk; show w.heap.size + 2 ≤ k; omega)⟩; clear hb hB; clear hr)))
  refine ret_cell1 (s := 2) (ad := ⟨w.heap.size + 1, 0, none⟩) rfl rfl (load_whole SZ.out.1 _ Tryz.underlying90 rfl (by kernel_rfl)) rfl ?_
  have hBz : Below w.heap.size w wz := SZ.out.2.below S2.out.1 (by omega)
  have hE0 := (S2.out.2.2.2).keep (Nat.le_of_eq SZ.out.2.size.symm) (fun k _ hk => SZ.out.2.block k (by have hk : w.heap.size + 2 ≤ k := hk; omega))
  exact ⟨_, rfl, hE0.mono (fun k _ hk => by have hk : w.heap.size + 2 ≤ k := hk; show w.heap.size ≤ k; omega), hBz⟩
set_option maxRecDepth 100000 in
set_option maxHeartbeats 3200000 in
theorem nlistChange_any {F : Nat → Prop} (l : List Cg) (a : Option Addr) (cap : Nat) (hm : l.length * 64 ≤ 140737488355328) (hl : ∀ c, c ∈ l → cgS c) (w : World) (hI : Reads F w (.slice a l.length cap) (.l 5 (l.map dCg))) :
    Calls Tryz.prog 59 #[.slice a l.length cap, .func (.func 60) #[] #[]] w fun e w' => ∃ a1 c1, e = .returned (.slice a1 l.length c1) ∧ Reads (fun k => w.heap.size ≤ k) w' (.slice a1 l.length c1) (.l 5 ((l.map nCg).map dCg)) ∧ Below w.heap.size w w' := by
  have hwd : ∀ e, e ∈ l.map dCg → e.length = 5 := fun e he => by
    obtain ⟨c, _, rfl⟩ := List.mem_map.1 he
    rfl
  have hwn : ∀ e, e ∈ (l.map nCg).map dCg → e.length = 5 := fun e he => by
    obtain ⟨c, _, rfl⟩ := List.mem_map.1 he
    rfl
  have HC := hid (ncloneChange_any (l.map dCg) ((l.map nCg).map dCg) a l.length cap hwd (by rw [List.length_map]; exact hm) w hI)
  have hll : (l.length : Int) ≤ 140737488355328 := by omega
  have HL := hid (And.intro hl (And.intro hwn hll))
  obtain ⟨fs, hfs⟩ : ∃ fs, fs = (l.map nCg).map dCg := ⟨_, rfl⟩
  rw [← hfs] at HC HL ⊢
  have HF := hid hfs
  clear hm hl hI hwd hwn hll hfs
  go_enter Tryz.func59, Tryz.ntmps59
  go_wp2_with (go_at_call 96; go_must (refine (HC.out).mono ?_; rintro e w1 ⟨a1, c1, rfl, hb, hS⟩; have H1 := hid (And.intro hb hS); clear hb hS))
  go_loopw [10] (fun i wr => ∃ (j : Nat), j ≤ l.length ∧ i = .int .i64 (j : Int) ∧ Below w.heap.size w wr ∧ (l.length = 0 ∨ ∃ b G X, a1 = some ⟨b, 0, none⟩ ∧ OlSt 90 5 b w wr (l.map dCg) fs G X j))
    (fun i _ => ((l.length : Int) - intOf i).toNat)
  case atStart => exact ⟨0, by omega, rfl, H1.out⟩
  case round =>
    obtain ⟨j, hj, rfl, hB, hS⟩ := hrel
    have HS := hid (And.intro hB hS)
    clear hB hS
    by_cases hjn : j = l.length
    · have hj1 : ¬ ((j : Int) < (l.length : Int)) := by omega
      have HJ := hid hjn
      clear hj hjn
      go_wp2
      go_ret
      have hfin : Reads (fun k => w.heap.size ≤ k) wr (.slice a1 l.length c1) (.l 5 fs) := by
        rcases HS.out.2 with h0 | ⟨b, G, X, rfl, hS⟩
        · obtain rfl := List.eq_nil_of_length_eq_zero h0
          have hf0 : fs = [] := HF.out
          rw [hf0]
          exact .nil _ _ _
        · have h2 := hS
          rw [HJ.out, show l.length = (l.map dCg).length by simp] at h2
          have h3 := h2.all (by rw [HF.out]; simp) HL.out.2.1 c1
          rw [List.length_map] at h3
          exact h3
      first | exact ⟨a1, c1, rfl, hfin, HS.out.1⟩ | exact ⟨a1, ⟨c1, rfl⟩, hfin, HS.out.1⟩ | exact ⟨_, _, rfl, hfin, HS.out.1⟩
    · have hj1 : (j : Int) < (l.length : Int) := by omega
      have hj0 : (0 : Int) ≤ (j : Int) := Int.natCast_nonneg _
      have hjw : IntKind.i64.wrap ((j : Int) + 1) = (j : Int) + 1 := wrap_l3 (by have := HL.out.2.2; omega) (by have := HL.out.2.2; omega)
      obtain ⟨c, hc⟩ : ∃ c, l[j]? = some c := ⟨_, List.getElem?_eq_getElem (by omega)⟩
      obtain ⟨hB, hS⟩ := HS.out
      obtain ⟨b, G, X, rfl, hT⟩ := hS.resolve_left (by omega)
      clear hS
      have hS := hT
      clear hT
      obtain ⟨x, hx, hR⟩ := hS.rest j (dCg c) (Nat.le_refl _) (by rw [List.getElem?_map, hc]; rfl)
      obtain ⟨v, rfl, hr0⟩ := cellsChange hR
      have HR := hid hr0
      have H2 : Hid (OlSt 90 5 b w wr (l.map dCg) fs G X j ∧ G[j]? = some (cgC c v)) := hid ⟨hS, hx⟩
      have HJ := hid (And.intro hj (And.intro hjn hc))
      have hlen : j * 5 + 5 ≤ (G.flatten ++ X).length := by
        have h1 := jn_len hS.wid
        have h2 := hS.len
        rw [List.length_map] at h2
        rw [List.length_append, h1, h2]
        omega
      have HLn := hid hlen
      clear hB hS hR hx hj hjn hc hlen hr0
      go_wp2_with (first
        | (have := H3; refine wl_store_blk rfl 90 _ _ rfl b (j * 5) rfl _ rfl (G.flatten ++ X) 90 H3.out.1.blk (by exact HLn.out) (by kernel_rfl) (by have h9 := H3.out.2.2.cell1; revert h9; cases v' <;> simp [Value.oneCell']) ?_; go_must (intro w3 Hz; have H4 := Hz; clear Hz))
        | (go_at_call 60; go_must (refine (nownChange_any c (HL.out.1 c (List.mem_of_getElem? HJ.out.2.2)) v _ HR.out).mono ?_; rintro e w2 ⟨v', rfl, hr, hb⟩; have H3 : Hid (OlSt 90 5 b w w2 (l.map dCg) fs G X j ∧ Below wr.heap.size wr w2 ∧ Reads (fun k => wr.heap.size ≤ k) w2 v' (dCts (c.2.2.1.map nCt))) := hid ⟨H2.out.1.keep hb, hb, hr⟩; clear hb hr))
        | (refine wl_ldat rfl 90 _ rfl b (j * 5) rfl [.int .i64 c.1, .int .i64 c.2.1, v, .int .i64 c.2.2.2.1, .string c.2.2.2.2] (fun q u hu => H2.out.1.at H2.out.2 q u hu) _ Tryz.underlying90 rfl (by kernel_rfl) (.agg #[.int .i64 c.1, .int .i64 c.2.1, v, .int .i64 c.2.2.2.1, .string c.2.2.2.2]) rfl ?_))
      go_roundw
      case rel =>
        have hbb := lt_of_blk H2.out.1.blk
        have hsw := H2.out.1.bel.size
        have hj2 := HJ.out
        refine ⟨j + 1, by omega, by simp, H4.out.2.below H3.out.1.bel H3.out.1.low, .inr ⟨b, _, X, rfl, H3.out.1.put [.int .i64 c.1, .int .i64 c.2.1, v', .int .i64 c.2.2.2.1, .string c.2.2.2.2] (dCg (nCg c)) (by rw [List.length_map]; omega) (by rw [HF.out]; simp [hj2.2.2]) rfl ?_ H4.out.2 H4.out.1⟩⟩
        exact rowdChange (c := (nCg c)) (H3.out.2.2.mono (fun k _ hk => ⟨Nat.le_trans hsw hk, by have hk : wr.heap.size ≤ k := hk; omega⟩))
      case measure => have := HJ.out; simp [intOf]; omega
set_option maxRecDepth 100000 in
set_option maxHeartbeats 3200000 in
theorem nownLink_any {F : Nat → Prop} (c : Ln) (hc : lnS c) (v v2 : Value) (w : World) (hv : Reads F w v (dInts c.1.2)) (hv2 : Reads F w v2 (dPairs c.2)) :
    Calls Tryz.prog 62 #[.agg #[.int .i64 c.1.1, v, v2]] w fun e w' => ∃ v' v2', e = .returned (.agg #[.int .i64 c.1.1, v', v2']) ∧ Reads (fun k => w.heap.size ≤ k) w' v' (dInts c.1.2) ∧ Reads (fun k => w.heap.size ≤ k) w' v2' (dPairs c.2) ∧ Below w.heap.size w w' := by
  obtain ⟨a, k, rfl, _, _⟩ := reads_ints hv
  obtain ⟨a2, k2, rfl, _, _⟩ := reads_pairs hv2
  obtain ⟨wa, ha, hb, hx, hz⟩ := two_newL [.int .i64 c.1.1, .slice a c.1.2.length k, .slice a2 c.2.length k2] [.int .i64 0, .slice none 0 0, .slice none 0 0] 96 96 w
  have HT := hid hc
  have HV := hid (fun (u : World) (hu : Below w.heap.size w u) => (hv).under hu (Nat.le_refl _))
  have HV2 := hid (fun (u : World) (hu : Below w.heap.size w u) => (hv2).under hu (Nat.le_refl _))
  have HA := hid ha
  have S0 : Hid (Below w.heap.size w wa ∧ BxAt wa w.heap.size [.int .i64 c.1.1, .slice a c.1.2.length k, .slice a2 c.2.length k2] 96 ∧ BxAt wa (w.heap.size + 1) [.int .i64 0, .slice none 0 0, .slice none 0 0] 96) := hid ⟨hb, hx, hz⟩
  clear ha hb hx hz hc hv hv2
  have z1 := S0.out.2.1.cell 1 _ rfl
  go_enter Tryz.func62, Tryz.ntmps62
  go_upto_region 1 with fail
  rw [HA.out]
  go_wp2_with (first
    | (have := S2; refine wl_store_blk rfl 96 _ _ rfl (w.heap.size + 1) 0 rfl _ rfl [.int .i64 0, .slice none 0 0, .slice none 0 0] 96 S2.out.2.2.1 (by simp) (by kernel_rfl) (by simp [Value.oneCell']) ?_; go_must (intro wz Hz; have SZ : Hid (BxAt wz (w.heap.size + 1) [.int .i64 c.1.1, .slice a3 (c.1.2).length c3, .slice a4 (c.2).length c4] 96 ∧ One (w.heap.size + 1) w2s wz) := hid Hz.out; clear Hz))
    | (have := S2; refine wl_loadB rfl 96 _ rfl w.heap.size 0 rfl [.int .i64 c.1.1, .slice a3 (c.1.2).length c3, .slice a4 (c.2).length c4] 96 S2.out.2.1 _ Tryz.underlying96 rfl (by kernel_rfl) (.agg #[.int .i64 c.1.1, .slice a3 (c.1.2).length c3, .slice a4 (c.2).length c4]) rfl rfl ?_)
    | (have := C2; refine wl_stone rfl 44 _ _ rfl w.heap.size 2 rfl (.slice a4 (c.2).length c4) rfl rfl rfl [.int .i64 c.1.1, .slice a3 (c.1.2).length c3, .slice a2 c.2.length k2] 96 C2.out.2.1 (by simp) (by kernel_rfl) ?_; go_must (intro w2s Hz; have S2 : Hid (Below w.heap.size w w2s ∧ BxAt w2s w.heap.size [.int .i64 c.1.1, .slice a3 (c.1.2).length c3, .slice a4 (c.2).length c4] 96 ∧ BxAt w2s (w.heap.size + 1) [.int .i64 0, .slice none 0 0, .slice none 0 0] 96 ∧ Reads (fun k => w.heap.size + 2 ≤ k) w2s (.slice a3 (c.1.2).length c3) (dInts (c.1.2)) ∧ Reads (fun k => w.heap.size + 2 ≤ k) w2s (.slice a4 (c.2).length c4) (dPairs (c.2))) := hid ⟨Hz.out.2.below C2.out.1 (Nat.le_refl _), Hz.out.1, (Hz.out.2.block _ (by omega)).trans C2.out.2.2.1, (C2.out.2.2.2.1).keep (Nat.le_of_eq Hz.out.2.size.symm) (fun k _ hk => Hz.out.2.block k (by have hk : w.heap.size + 2 ≤ k := hk; omega)), (C2.out.2.2.2.2).keep (Nat.le_of_eq Hz.out.2.size.symm) (fun k _ hk => Hz.out.2.block k (by have hk : w.heap.size + 2 ≤ k := hk; omega))⟩; clear Hz))
    | (have := S1; go_at_call 58; go_must (refine (nownSigs_any (c.2) a2 k2 HT.out.2 _ (HV2.out _ S1.out.1)).mono ?_; rintro e w2 ⟨a4, c4, rfl, hr, hb⟩; have hB := S1.out.1; have C2 : Hid (Below w.heap.size w w2 ∧ BxAt w2 w.heap.size [.int .i64 c.1.1, .slice a3 (c.1.2).length c3, .slice a2 c.2.length k2] 96 ∧ BxAt w2 (w.heap.size + 1) [.int .i64 0, .slice none 0 0, .slice none 0 0] 96 ∧ Reads (fun k => w.heap.size + 2 ≤ k) w2 (.slice a3 (c.1.2).length c3) (dInts (c.1.2)) ∧ Reads (fun k => w.heap.size + 2 ≤ k) w2 (.slice a4 (c.2).length c4) (dPairs (c.2))) := hid ⟨hB.trans (hb.mono hB.size), S1.out.2.1.keep hb, S1.out.2.2.1.keep hb, (S1.out.2.2.2).under hb (Nat.le_refl _), hr.mono (fun k _ hk => by have h9 := lt_of_blk S1.out.2.2.1; have hk : _ ≤ k := hk; show w.heap.size + 2 ≤ k; omega)⟩; clear hb hB; clear hr))
    | (have := C1; refine wl_stone rfl 22 _ _ rfl w.heap.size 1 rfl (.slice a3 (c.1.2).length c3) rfl rfl rfl [.int .i64 c.1.1, .slice a c.1.2.length k, .slice a2 c.2.length k2] 96 C1.out.2.1 (by simp) (by kernel_rfl) ?_; go_must (intro w1s Hz; have S1 : Hid (Below w.heap.size w w1s ∧ BxAt w1s w.heap.size [.int .i64 c.1.1, .slice a3 (c.1.2).length c3, .slice a2 c.2.length k2] 96 ∧ BxAt w1s (w.heap.size + 1) [.int .i64 0, .slice none 0 0, .slice none 0 0] 96 ∧ Reads (fun k => w.heap.size + 2 ≤ k) w1s (.slice a3 (c.1.2).length c3) (dInts (c.1.2))) := hid ⟨Hz.out.2.below C1.out.1 (Nat.le_refl _), Hz.out.1, (Hz.out.2.block _ (by omega)).trans C1.out.2.2.1, (C1.out.2.2.2).keep (Nat.le_of_eq Hz.out.2.size.symm) (fun k _ hk => Hz.out.2.block k (by have hk : w.heap.size + 2 ≤ k := hk; omega))⟩; clear Hz; have z2 := S1.out.2.1.cell 2 _ rfl))
    | (have := S0; go_at_call 30; go_must (refine (cloneInts_any a _ k (c.1.2) rfl HT.out.1 _ (by obtain ⟨a9, k9, e9, i9, _⟩ := reads_ints (HV.out _ S0.out.1); cases e9; exact i9)).mono ?_; rintro e w1 ⟨a3, c3, rfl, hn, hb⟩; have hB := S0.out.1; have C1 : Hid (Below w.heap.size w w1 ∧ BxAt w1 w.heap.size [.int .i64 c.1.1, .slice a c.1.2.length k, .slice a2 c.2.length k2] 96 ∧ BxAt w1 (w.heap.size + 1) [.int .i64 0, .slice none 0 0, .slice none 0 0] 96 ∧ Reads (fun k => w.heap.size + 2 ≤ k) w1 (.slice a3 (c.1.2).length c3) (dInts (c.1.2))) := hid ⟨hB.trans (hb.mono hB.size), S0.out.2.1.keep hb, S0.out.2.2.keep hb, ints_reads hn.ints (fun x hx _ => by have h9 := lt_of_blk S0.out.2.2; have h8 := (hn.far x hx).1; show w.heap.size + 2 ≤ x.block; omega)⟩; clear hb hB; clear hn)))
  refine ret_cell1 (s := 2) (ad := ⟨w.heap.size + 1, 0, none⟩) rfl rfl (load_whole SZ.out.1 _ Tryz.underlying96 rfl (by kernel_rfl)) rfl ?_
  have hBz : Below w.heap.size w wz := SZ.out.2.below S2.out.1 (by omega)
  have hE0 := (S2.out.2.2.2.1).keep (Nat.le_of_eq SZ.out.2.size.symm) (fun k _ hk => SZ.out.2.block k (by have hk : w.heap.size + 2 ≤ k := hk; omega))
  have hE1 := (S2.out.2.2.2.2).keep (Nat.le_of_eq SZ.out.2.size.symm) (fun k _ hk => SZ.out.2.block k (by have hk : w.heap.size + 2 ≤ k := hk; omega))
  exact ⟨_, _, rfl, hE0.mono (fun k _ hk => by have hk : w.heap.size + 2 ≤ k := hk; show w.heap.size ≤ k; omega), hE1.mono (fun k _ hk => by have hk : w.heap.size + 2 ≤ k := hk; show w.heap.size ≤ k; omega), hBz⟩
set_option maxRecDepth 100000 in
set_option maxHeartbeats 3200000 in
theorem nlistLink_any {F : Nat → Prop} (l : List Ln) (a : Option Addr) (cap : Nat) (hm : l.length * 56 ≤ 140737488355328) (hl : ∀ c, c ∈ l → lnS c) (w : World) (hI : Reads F w (.slice a l.length cap) (.l 3 (l.map dLn))) :
    Calls Tryz.prog 61 #[.slice a l.length cap, .func (.func 62) #[] #[]] w fun e w' => ∃ a1 c1, e = .returned (.slice a1 l.length c1) ∧ Reads (fun k => w.heap.size ≤ k) w' (.slice a1 l.length c1) (.l 3 (l.map dLn)) ∧ Below w.heap.size w w' := by
  have hwd : ∀ e, e ∈ l.map dLn → e.length = 3 := fun e he => by
    obtain ⟨c, _, rfl⟩ := List.mem_map.1 he
    rfl
  have hwn : ∀ e, e ∈ l.map dLn → e.length = 3 := fun e he => by
    obtain ⟨c, _, rfl⟩ := List.mem_map.1 he
    rfl
  have HC := hid (ncloneLink_any (l.map dLn) (l.map dLn) a l.length cap hwd (by rw [List.length_map]; exact hm) w hI)
  have hll : (l.length : Int) ≤ 140737488355328 := by omega
  have HL := hid (And.intro hl (And.intro hwn hll))
  clear hm hl hI hwd hwn hll
  go_enter Tryz.func61, Tryz.ntmps61
  go_wp2_with (go_at_call 99; go_must (refine (HC.out).mono ?_; rintro e w1 ⟨a1, c1, rfl, hb, hS⟩; have H1 := hid (And.intro hb hS); clear hb hS))
  go_loopw [10] (fun i wr => ∃ (j : Nat), j ≤ l.length ∧ i = .int .i64 (j : Int) ∧ Below w.heap.size w wr ∧ (l.length = 0 ∨ ∃ b G X, a1 = some ⟨b, 0, none⟩ ∧ OlSt 96 3 b w wr (l.map dLn) (l.map dLn) G X j))
    (fun i _ => ((l.length : Int) - intOf i).toNat)
  case atStart => exact ⟨0, by omega, rfl, H1.out⟩
  case round =>
    obtain ⟨j, hj, rfl, hB, hS⟩ := hrel
    have HS := hid (And.intro hB hS)
    clear hB hS
    by_cases hjn : j = l.length
    · have hj1 : ¬ ((j : Int) < (l.length : Int)) := by omega
      have HJ := hid hjn
      clear hj hjn
      go_wp2
      go_ret
      have hfin : Reads (fun k => w.heap.size ≤ k) wr (.slice a1 l.length c1) (.l 3 (l.map dLn)) := by
        rcases HS.out.2 with h0 | ⟨b, G, X, rfl, hS⟩
        · obtain rfl := List.eq_nil_of_length_eq_zero h0
          exact .nil _ _ _
        · have h2 := hS
          rw [HJ.out, show l.length = (l.map dLn).length by simp] at h2
          have h3 := h2.all (by simp) HL.out.2.1 c1
          rw [List.length_map] at h3
          exact h3
      first | exact ⟨a1, c1, rfl, hfin, HS.out.1⟩ | exact ⟨a1, ⟨c1, rfl⟩, hfin, HS.out.1⟩ | exact ⟨_, _, rfl, hfin, HS.out.1⟩
    · have hj1 : (j : Int) < (l.length : Int) := by omega
      have hj0 : (0 : Int) ≤ (j : Int) := Int.natCast_nonneg _
      have hjw : IntKind.i64.wrap ((j : Int) + 1) = (j : Int) + 1 := wrap_l3 (by have := HL.out.2.2; omega) (by have := HL.out.2.2; omega)
      obtain ⟨c, hc⟩ : ∃ c, l[j]? = some c := ⟨_, List.getElem?_eq_getElem (by omega)⟩
      obtain ⟨hB, hS⟩ := HS.out
      obtain ⟨b, G, X, rfl, hT⟩ := hS.resolve_left (by omega)
      clear hS
      have hS := hT
      clear hT
      obtain ⟨x, hx, hR⟩ := hS.rest j (dLn c) (Nat.le_refl _) (by rw [List.getElem?_map, hc]; rfl)
      obtain ⟨v, v2, rfl, hr0, hr1⟩ := cellsLink hR
      have HR := hid (And.intro hr0 hr1)
      have H2 : Hid (OlSt 96 3 b w wr (l.map dLn) (l.map dLn) G X j ∧ G[j]? = some (linkC c v v2)) := hid ⟨hS, hx⟩
      have HJ := hid (And.intro hj (And.intro hjn hc))
      have hlen : j * 3 + 3 ≤ (G.flatten ++ X).length := by
        have h1 := jn_len hS.wid
        have h2 := hS.len
        rw [List.length_map] at h2
        rw [List.length_append, h1, h2]
        omega
      have HLn := hid hlen
      clear hB hS hR hx hj hjn hc hlen hr0 hr1
      go_wp2_with (first
        | (have := H3; refine wl_store_blk rfl 96 _ _ rfl b (j * 3) rfl _ rfl (G.flatten ++ X) 96 H3.out.1.blk (by exact HLn.out) (by kernel_rfl) (by have h9 := H3.out.2.2.1.cell1; have h8 := H3.out.2.2.2.cell1; revert h9 h8; cases v' <;> cases v2' <;> simp [Value.oneCell']) ?_; go_must (intro w3 Hz; have H4 := Hz; clear Hz))
        | (go_at_call 62; go_must (refine (nownLink_any c (HL.out.1 c (List.mem_of_getElem? HJ.out.2.2)) v v2 _ HR.out.1 HR.out.2).mono ?_; rintro e w2 ⟨v', v2', rfl, hr, hr2, hb⟩; have H3 : Hid (OlSt 96 3 b w w2 (l.map dLn) (l.map dLn) G X j ∧ Below wr.heap.size wr w2 ∧ Reads (fun k => wr.heap.size ≤ k) w2 v' (dInts c.1.2) ∧ Reads (fun k => wr.heap.size ≤ k) w2 v2' (dPairs c.2)) := hid ⟨H2.out.1.keep hb, hb, hr, hr2⟩; clear hb hr hr2))
        | (refine wl_ldat rfl 96 _ rfl b (j * 3) rfl [.int .i64 c.1.1, v, v2] (fun q u hu => H2.out.1.at H2.out.2 q u hu) _ Tryz.underlying96 rfl (by kernel_rfl) (.agg #[.int .i64 c.1.1, v, v2]) rfl ?_))
      go_roundw
      case rel =>
        have hbb := lt_of_blk H2.out.1.blk
        have hsw := H2.out.1.bel.size
        have hj2 := HJ.out
        refine ⟨j + 1, by omega, by simp, H4.out.2.below H3.out.1.bel H3.out.1.low, .inr ⟨b, _, X, rfl, H3.out.1.put [.int .i64 c.1.1, v', v2'] (dLn c) (by rw [List.length_map]; omega) (by simp [hj2.2.2]) rfl ?_ H4.out.2 H4.out.1⟩⟩
        exact rowdLink (c := c) (H3.out.2.2.1.mono (fun k _ hk => ⟨Nat.le_trans hsw hk, by have hk : wr.heap.size ≤ k := hk; omega⟩)) (H3.out.2.2.2.mono (fun k _ hk => ⟨Nat.le_trans hsw hk, by have hk : wr.heap.size ≤ k := hk; omega⟩))
      case measure => have := HJ.out; simp [intOf]; omega
end Go.Proofs.YtgmekkgbobmplaaGreat

/- The document's Noted. -/
namespace Go.Proofs.YtgmekkgbobmplaaGreat
open Go.RowKit

/-- A list with those that don't stand in it. -/
def noted (l : List (Int × ByteArray)) : List (Int × ByteArray) → List (Int × ByteArray)
  | [] => l
  | s :: ss => noted (if stands l s = true then l else l ++ [s]) ss
theorem noted_app (l a b : List (Int × ByteArray)) : noted l (a ++ b) = noted (noted l a) b := by
  induction a generalizing l with
  | nil => rfl
  | cons s a ih => exact ih _
theorem noted_yes {l : List (Int × ByteArray)} {s : Int × ByteArray} (h : stands l s = true) : noted l [s] = l := by simp [noted, h]
theorem noted_no {l : List (Int × ByteArray)} {s : Int × ByteArray} (h : stands l s = false) : noted l [s] = l ++ [s] := by simp [noted, h]
theorem noted_len (ss : List (Int × ByteArray)) : ∀ l, (noted l ss).length ≤ l.length + ss.length := by
  induction ss with
  | nil => intro l; exact Nat.le_refl _
  | cons s ss ih =>
    intro l
    refine Nat.le_trans (ih _) ?_
    split <;> simp <;> omega
theorem noted_mem (ss : List (Int × ByteArray)) (z : Int × ByteArray) : ∀ l, z ∈ noted l ss ↔ z ∈ l ∨ z ∈ ss := by
  induction ss with
  | nil => intro l; simp [noted]
  | cons s ss ih =>
    intro l
    rw [noted, ih, List.mem_cons]
    by_cases h : stands l s = true
    · rw [if_pos h]
      have := (stands_iff _ _).1 h
      constructor
      · rintro (h | h)
        · exact .inl h
        · exact .inr (.inr h)
      · rintro (h | rfl | h)
        · exact .inl h
        · exact .inl this
        · exact .inr h
    · rw [if_neg h, List.mem_append, List.mem_singleton]
      constructor
      · rintro ((h | h) | h)
        · exact .inl h
        · exact .inr (.inl h)
        · exact .inr (.inr h)
      · rintro (h | h | h)
        · exact .inl (.inl h)
        · exact .inl (.inr h)
        · exact .inr h
theorem noted_nodup (ss : List (Int × ByteArray)) : ∀ l, l.Nodup → (noted l ss).Nodup := by
  induction ss with
  | nil => intro l h; exact h
  | cons s ss ih =>
    intro l h
    rw [noted]
    split
    · exact ih _ h
    · next hs =>
      refine ih _ (List.nodup_append.2 ⟨h, by simp, fun x hx y hy e => ?_⟩)
      rw [List.mem_singleton.1 hy] at e
      rw [e] at hx
      exact hs ((stands_iff _ _).2 hx)
/-- The list as it grows: all other blocks stay. -/
structure NoSt (B : Nat) (w0 w : World) (v0 v : Value) (L : List (Int × ByteArray)) : Prop where
  own : w.ownsRow B 87 2 v L.length (pC L)
  grown : w0.grownBy w v0.ownBlock
  at_ : v.ownBlock = v0.ownBlock ∨ ∃ k, v.ownBlock = some k ∧ w0.heap.size ≤ k
theorem NoSt.keep {B : Nat} {w0 w w' : World} {v0 v : Value} {L : List (Int × ByteArray)} (h : NoSt B w0 w v0 v L) (hb : Below w.heap.size w w') : NoSt B w0 w' v0 v L :=
  ⟨ownsRow_keep h.own hb, ⟨hb.os.trans h.grown.os, hb.tape.trans h.grown.tape, hb.output.trans h.grown.output, Nat.le_trans h.grown.size hb.size, fun k hk hne => (hb.block k (Nat.lt_of_lt_of_le hk h.grown.size)).trans (h.grown.block k hk hne)⟩, h.at_⟩
theorem NoSt.pairs {B : Nat} {w0 w : World} {v0 v : Value} {L : List (Int × ByteArray)} (h : NoSt B w0 w v0 v L) : ∃ ad cap, v = .slice ad L.length cap ∧ PairsIn w ad L := own_pairsT h.own
theorem NoSt.append {B : Nat} {w0 w w' : World} {v0 v v' : Value} {L : List (Int × ByteArray)} {s : Int × ByteArray} (h : NoSt B w0 w v0 v L) (hown : w'.ownsRow B 87 2 v' (L.length + 1) (pC L ++ pC [s])) (hg : w.grownBy w' v.ownBlock) (ha : v'.ownBlock = v.ownBlock ∨ v'.ownBlock = some w.heap.size) : NoSt B w0 w' v0 v' (L ++ [s]) := by
  refine ⟨by rw [List.length_append, pC_app]; exact hown, ⟨hg.os.trans h.grown.os, hg.tape.trans h.grown.tape, hg.output.trans h.grown.output, Nat.le_trans h.grown.size hg.size, fun k hk hne => (hg.block k (Nat.lt_of_lt_of_le hk h.grown.size) ?_).trans (h.grown.block k hk hne)⟩, ?_⟩
  · intro e
    rcases h.at_ with h1 | ⟨j, h1, h2⟩
    · exact hne (e.trans h1)
    · rw [h1] at e
      cases e
      omega
  · rcases ha with e | e
    · rw [e]; exact h.at_
    · exact .inr ⟨_, e, h.grown.size⟩
theorem pairs_but {w w' : World} {b : Option Addr} {ss : List (Int × ByteArray)} {row : Option Nat} (hP : PairsIn w b ss) (hne : ∀ ad, b = some ad → ss ≠ [] → row ≠ some ad.block) (hg : w.grownBy w' row) : PairsIn w' b ss := by
  by_cases h0 : ss = []
  · exact .inl h0
  rcases hP with h | ⟨g, o, rfl, hlt, hc⟩
  · exact .inl h
  · refine .inr ⟨g, o, rfl, Nat.lt_of_lt_of_le hlt hg.size, fun j p hj => ?_⟩
    have hh := hg.block g hlt (fun e => hne _ rfl h0 e.symm)
    have := hc j p hj
    exact ⟨(World.cell?_of_block (a := ⟨g, _, none⟩) hh).trans this.1, (World.cell?_of_block (a := ⟨g, _, none⟩) hh).trans this.2⟩
set_option maxRecDepth 100000 in
set_option maxHeartbeats 3200000 in
theorem wnoted_any (B : Nat) (v : Value) (n : Nat) (l : List (Int × ByteArray)) (hn : l.length = n) (b : Option Addr) (m cp : Nat) (ss : List (Int × ByteArray)) (hsn : ss.length = m) (hm : (n + m) * 24 ≤ 140737488355328) (w : World) (hB : B ≤ w.heap.size) (hO : w.ownsRow B 87 2 v n (pC l)) (hP : PairsIn w b ss) (hne : ∀ ad, b = some ad → ss ≠ [] → v.ownBlock ≠ some ad.block) :
    Calls Tryz.prog 25 #[v, .slice b m cp] w fun e w' => ∃ v', e = .returned v' ∧ NoSt B w w' v v' (noted l ss) := by
  have hm2 : (m : Int) ≤ 9223372036854775806 := by omega
  have HO : Hid (NoSt B w w v v l) := hid ⟨by rw [hn]; exact hO, ⟨rfl, rfl, rfl, Nat.le_refl _, fun _ _ _ => rfl⟩, .inl rfl⟩
  have HP := hid (And.intro hP (And.intro hne hsn))
  have HM := hid (And.intro hm hn)
  have HB := hid hB
  clear hO hP hne hm hB
  go_enter Tryz.func25, Tryz.ntmps25
  go_wp2
  obtain ⟨i0, hi0, hz0, hz1, hz2⟩ := info_parts Tryz.info87
  go_loopw [0, 5] (fun v1 i wr => ∃ j : Nat, j ≤ m ∧ i = .int .i64 (j : Int) ∧ NoSt B w wr v v1 (noted l (ss.take j)))
    (fun _ i _ => ((m : Int) - intOf i).toNat)
  case atStart => exact ⟨0, by omega, rfl, HO.out⟩
  case round =>
    obtain ⟨j, hj, rfl, hN⟩ := hrel
    have HN := hid hN
    clear hN
    by_cases hjn : j = m
    · have hj1 : ¬ ((j : Int) < (m : Int)) := by omega
      have HE : Hid (ss.take j = ss) := hid (List.take_of_length_le (by rw [HP.out.2.2]; omega))
      clear hj hjn
      go_wp2
      go_ret
      exact ⟨_, rfl, by rw [HE.out] at HN; exact HN.out⟩
    · have hj1 : (j : Int) < (m : Int) := by omega
      have hj0 : (0 : Int) ≤ (j : Int) := Int.natCast_nonneg _
      have hjl : j < ss.length := by rw [HP.out.2.2]; omega
      have htk : ss.take (j + 1) = ss.take j ++ [(idOf ss j, rtOf ss j)] := by rw [List.take_add_one, getP_some hjl]; rfl
      have hap := noted_app l (ss.take j) [(idOf ss j, rtOf ss j)]
      rw [← htk] at hap
      have hln : ((noted l (ss.take j)).length + 1) * 24 ≤ 140737488355328 := by
        have := noted_len (ss.take j) l
        have := HM.out
        rw [List.length_take] at *
        omega
      have hPw := pairs_but HP.out.1 HP.out.2.1 HN.out.grown
      obtain ⟨g1, o1, rfl, hg1, x1, y1⟩ := hPw.at j _ (getP_some hjl)
      obtain ⟨L, eL⟩ : ∃ L, L = noted l (ss.take j) := ⟨_, rfl⟩
      rw [← eL] at HN hap hln
      obtain ⟨x, ex⟩ : ∃ x, x = idOf ss j := ⟨_, rfl⟩
      obtain ⟨y, ey⟩ : ∃ y, y = rtOf ss j := ⟨_, rfl⟩
      rw [← ex, ← ey] at hap
      rw [← ex] at x1
      rw [← ey] at y1
      obtain ⟨ao, co, hu, hq⟩ := HN.out.pairs
      subst hu
      have HS : Hid (∀ u : World, PairsIn u ao L → Calls Tryz.prog 44 #[.slice ao L.length co, .agg #[.int .i64 x, .string y]] u fun e w' => e = .returned (.bool (stands L (x, y))) ∧ Below u.heap.size u w') := hid (fun u hu => wstands_any ao L.length co L rfl (by unfold maxLen; omega) x y u hu)
      have HQ := hid hq
      have HC := hid (And.intro hg1 (And.intro x1 y1))
      have HJ := hid (And.intro hj hjn)
      have HA := hid hap
      have HL := hid hln
      clear hq hg1 hj hjn hap hln htk hPw eL ex ey hjl
      cases h1 : stands L (x, y) with
      | true =>
        rw [h1] at HS
        have HR : Hid (noted l (ss.take (j + 1)) = L) := hid (by rw [HA.out, noted_yes h1])
        clear h1
        go_wp2_with (go_at_call 44; refine (HS.out _ HQ.out).mono ?_; rintro e w2 ⟨rfl, hb2⟩; have H2 := hid (HN.out.keep hb2); clear hb2)
        go_roundw
        case rel => exact ⟨j + 1, by have := HJ.out; omega, by go_num, by rw [HR.out]; exact H2.out⟩
        case measure => simp [intOf]; omega
      | false =>
        rw [h1] at HS
        have HR : Hid (noted l (ss.take (j + 1)) = L ++ [(x, y)]) := hid (by rw [HA.out, noted_no h1])
        clear h1
        go_wp2_with (first
          | (go_at_call 44; refine (HS.out _ HQ.out).mono ?_; rintro e w2 ⟨rfl, hb2⟩; have H2 := hid (HN.out.keep hb2); have p0 := (hb2.cell (p := ⟨g1, _, none⟩) HC.out.1).trans HC.out.2.1; have p1 := (hb2.cell (p := ⟨g1, _, none⟩) HC.out.1).trans HC.out.2.2; clear hb2)
          | (at_builtin; refine wpList_append_own_at _ rfl _ _ 44 rfl B 87 i0 (.agg #[.int .i64 0, .string ⟨#[]⟩]) 2 24 Tryz.underlying44 hi0 hz0 hz1 hz2 rfl (by decide) _ L.length _ rfl (by exact H2.out.own.alloc _) ⟨_, 0, none⟩ 1 1 (pC [(x, y)]) rfl rfl (World.news_of_block (t := 87) (fr := (0, 0)) (heap_alloc_last _ _)) (by simp [pC, Value.oneCell']) (by have := HL.out; unfold maxLen; omega) (by have := HL.out; omega) (by have := H2.out.grown.size; have := HB.out; simp; omega) ?_; intro v8 w8 hown8 hgrow8 hnil8 hat8
             have H8 : Hid (NoSt B w w8 v v8 (L ++ [(x, y)])) := hid ((H2.out.keep ((Below.refl _ _).alloc (Nat.le_refl _) _)).append hown8 hgrow8 hat8)
             clear hown8 hgrow8 hnil8 hat8))
        go_roundw
        case rel => exact ⟨j + 1, by have := HJ.out; omega, by go_num, by rw [HR.out]; exact H8.out⟩
        case measure => simp [intOf]; omega
end Go.Proofs.YtgmekkgbobmplaaGreat

/- Maps keyed by signatures: what a book's map holds. -/
namespace Go.Proofs.YtgmekkgbobmplaaGreat
open Go.RowKit Go.Maps

/-- A signature whose number and text fit. -/
def fitP (p : Int × ByteArray) : Prop := (-9223372036854775808 ≤ p.1 ∧ p.1 ≤ 9223372036854775807) ∧ p.2.size ≤ maxLen
def kL (p : Int × ByteArray) : Lit := .string (keyBytes [.int .i64 p.1, .string p.2.data.toList])
theorem sig_type : Tryz.prog.keyType 87 = true := by kernel_rfl
theorem sig_cells : Tryz.prog.cellsOf 87 = 2 := by kernel_rfl
theorem int_cells : Tryz.prog.cellsOf 3 = 1 := by kernel_rfl
theorem str_cells : Tryz.prog.cellsOf 9 = 1 := by kernel_rfl
theorem lits_int (d : Nat) (x : Int) (h : (Lit.int .i64 x).wf = true) : Tryz.prog.keyLits (d + 1) 3 [.int .i64 x] = some [.int .i64 x] := by
  simp [Program.keyLits, Tryz.underlying3, h]
theorem lits_str (d : Nat) (s : ByteArray) (h : s.size ≤ maxLen) : Tryz.prog.keyLits (d + 1) 9 [.string s] = some [.string s.data.toList] := by
  simp [Program.keyLits, Tryz.underlying9, h]
theorem lits_sig (d : Nat) (p : Int × ByteArray) (h : fitP p) : Tryz.prog.keyLits (d + 1 + 1) 87 [.int .i64 p.1, .string p.2] = some [.int .i64 p.1, .string p.2.data.toList] := by
  have hw : (Lit.int .i64 p.1).wf = true := by simp [Lit.wf, IntKind.min, IntKind.max, IntKind.bits, IntKind.signed]; exact h.1
  unfold Program.keyLits
  simp [Tryz.underlying87, sig_cells, int_cells, str_cells, lits_int d p.1 hw, lits_str d p.2 h.2]
theorem sig_key (p : Int × ByteArray) (h : fitP p) : keyOf Tryz.prog 87 (.agg #[.int .i64 p.1, .string p.2]) = some (kL p) := by
  have hf : (Value.agg #[.int .i64 p.1, .string p.2]).formed Tryz.prog 87 = true := by
    rw [Value.formed, Tryz.underlying87, sig_cells]; rfl
  obtain ⟨n, hn⟩ : ∃ n, Tryz.prog.types.size = n + 1 := Nat.exists_eq_succ_of_ne_zero (of_decide_eq_true (by kernel_rfl))
  rw [keyOf, Tryz.underlying87]
  show (if Tryz.prog.keyType 87 && (Value.agg #[.int .i64 p.1, .string p.2]).formed Tryz.prog 87 then (Tryz.prog.keyLits (Tryz.prog.types.size + 1) 87 [.int .i64 p.1, .string p.2]).map fun ls => Lit.string (keyBytes ls) else none) = _
  rw [sig_type, hf, hn, lits_sig n p h]
  rfl
theorem sig_keyed : Keyed Tryz.prog 87 := Keyed.of_law (deep_law_laid (by kernel_rfl) (m := 4) (by decide) (of_decide_eq_true (by kernel_rfl)) (by kernel_rfl) (by kernel_rfl))
theorem kL_inj {p q : Int × ByteArray} (hp : fitP p) (hq : fitP q) (h : kL p = kL q) : p = q := by
  have := sig_keyed.inj (sig_key p hp) (by rw [h]; exact sig_key q hq)
  simp at this
  exact Prod.ext this.1 this.2
theorem kL_key {p : Int × ByteArray} (hp : fitP p) : WideAt.IsKeyLit (kL p) := sig_keyed.key (sig_key p hp)
/-- The datum D holds u just at the signatures of L. -/
structure Holds (D u z : DataW Unit) (L : List (Int × ByteArray)) : Prop where
  at_ : ∀ p, fitP p → D.atKey (kL p) z = if stands L p then u else z
  has_ : ∀ p, fitP p → Maps.has D (kL p) = stands L p
  size : Maps.size D = L.length
  tidy : Tidy D
  fits : ∀ p, p ∈ L → fitP p
  nodup : L.Nodup
theorem Holds.empty (u z : DataW Unit) : Holds (.map []) u z [] :=
  ⟨fun _ _ => rfl, fun _ _ => rfl, rfl, tidy_empty, fun p hp => (by cases hp), List.nodup_nil⟩
theorem Holds.put {D u z : DataW Unit} {L : List (Int × ByteArray)} (h : Holds D u z L) (p : Int × ByteArray) (hp : fitP p) : Holds (D.put (kL p) u) u z (noted L [p]) := by
  have hst : ∀ q, stands (noted L [p]) q = (stands L q || decide (q = p)) := fun q => by
    rw [Bool.eq_iff_iff, stands_iff, noted_mem, Bool.or_eq_true_iff, stands_iff, decide_eq_true_iff, List.mem_singleton]
  refine ⟨fun q hq => ?_, fun q hq => ?_, ?_, h.tidy.put (kL_key hp) u, fun q hq => ?_, noted_nodup [p] L h.nodup⟩
  · by_cases e : q = p
    · subst e
      rw [atKey_put_same h.tidy.isMap (kL_key hp), hst, decide_eq_true rfl, Bool.or_true, if_pos rfl]
    · rw [atKey_put_other (fun e2 => e (kL_inj hq hp e2)), h.at_ q hq, hst, decide_eq_false e, Bool.or_false]
  · by_cases e : q = p
    · subst e
      rw [has_put_same h.tidy.isMap (kL_key hp), hst, decide_eq_true rfl, Bool.or_true]
    · rw [has_put_other (fun e2 => e (kL_inj hq hp e2)), h.has_ q hq, hst, decide_eq_false e, Bool.or_false]
  · rw [size_put h.tidy, h.has_ p hp, h.size]
    cases e : stands L p with
    | true => rw [noted_yes e]; rfl
    | false => rw [noted_no e, List.length_append]; rfl
  · rcases (noted_mem [p] q L).1 hq with h1 | h1
    · exact h.fits q h1
    · rw [List.mem_singleton.1 h1]; exact hp
/-- How many entries there are at most: just as many as there are. -/
theorem ownsMap_tight {w : World} {k : TypeId} {R : Value → Option (DataW Unit × List MemPlace)} {b n : Nat} {D : DataW Unit} (h : w.ownsMap Tryz.prog k R b n D) : w.ownsMap Tryz.prog k R b (Maps.size D) D := by
  obtain ⟨es, clock, hb, F, hs, rfl⟩ := h
  exact ⟨es, clock, hb, F, by simp [Maps.size, length_sorted], rfl⟩
theorem plainElem_bool_inv {e : TypeId} (he : Tryz.prog.underlying e = some .bool) {v : Value} {b : Bool} {ps : List MemPlace} (h : plainElem (H := Unit) Tryz.prog e v = some (.lit (.bool b), ps)) : v = .bool b := by
  unfold plainElem at h
  rw [he] at h
  cases v <;> simp at h
  rw [h.1]
/-- A look-up in a book's map of bools. -/
theorem look_sig {w : World} {T E : TypeId} (hT : Tryz.prog.underlying T = some (.map 87 E)) (hE : Tryz.prog.underlying E = some .bool) (hz : (zeroValue E).run Tryz.prog w = .ok (.bool false) w) {b n : Nat} {D : DataW Unit} {L : List (Int × ByteArray)}
    (hown : w.ownsMap Tryz.prog 87 (plainElem Tryz.prog E) b n D) (hH : Holds D (.lit (.bool true)) (.lit (.bool false)) L) (p : Int × ByteArray) (hp : fitP p) :
    (Instr.lookup T (.map (some b)) (.agg #[.int .i64 p.1, .string p.2]) false).run Tryz.prog w = .ok (.bool (stands L p)) w := by
  obtain ⟨v, ps, hrun, hR⟩ := hown.lookup sig_keyed hT hz (plainElem_bool hE false) (sig_key p hp)
  rw [hH.at_ p hp] at hR
  have : v = .bool (stands L p) := by
    cases e : stands L p with
    | true => rw [e, if_pos rfl] at hR; exact plainElem_bool_inv hE hR
    | false => rw [e, if_neg (by decide)] at hR; exact plainElem_bool_inv hE hR
  rw [hrun, this]
section
variable {o : Oper} {a : Act} {w : World} {K : Act → World → Prop} {Q : Exit → Act → World → Prop}
/-- One more in a book's map. -/
theorem owp_put_sig (m x y : Operand) (T E : TypeId) (hop : o.op = Op.mapUpdate T m x y) (hT : Tryz.prog.underlying T = some (.map 87 E)) (R : Value → Option (DataW Unit × List MemPlace)) (b n : Nat) (D : DataW Unit) (hm : a.eval m = .map (some b)) (hown : w.ownsMap Tryz.prog 87 R b n D) (hn : n < maxLen)
    (p : Int × ByteArray) (hp : fitP p) (val : Value) (hx : a.eval x = .agg #[.int .i64 p.1, .string p.2]) (hv : a.eval y = val) (d : DataW Unit) (hval : R val = some (d, []))
    (h : ∀ w', Hid (w'.ownsMap Tryz.prog 87 R b (Maps.size (D.put (kL p) d)) (D.put (kL p) d) ∧ w.grownBy w' (some b)) → K (a.put o.dst undef) w') : o.wp Tryz.prog a w K Q := by
  obtain ⟨w', hrun, r1, r2⟩ := hown.update sig_keyed hT hn (sig_key p hp) hval
  have := h w' ⟨ownsMap_tight r1, r2⟩
  unfold Oper.wp
  simp [execOp, hop, hm, hx, hv, hrun, Result.andThen]
  exact this
end
end Go.Proofs.YtgmekkgbobmplaaGreat
