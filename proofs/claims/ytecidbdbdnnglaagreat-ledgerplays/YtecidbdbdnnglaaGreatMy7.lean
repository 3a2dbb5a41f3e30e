/- Texts laid together: LrD LrE LrF LrG. -/
import Derived.Test.YtecidbdbdnnglaaGreatMy6
import Derived.Test.YtecidbdbdnnglaaGreatMy5
import Derived.Test.YtecidbdbdnnglaaGreatMx5
/- The document's ledger while a function of its works: what lies beside it. -/
namespace Go.Proofs.YtecidbdbdnnglaaGreat
open Go.RowKit

theorem fpR_items {w : World} {g gs gr : Nat} {am an ai ai' : Option Addr} (h : ∀ x, ai' = some x → w.heap.size ≤ x.block) : ∀ b, b ∈ fpR g gs gr am an ai' → b ∈ fpR g gs gr am an ai ∨ w.heap.size ≤ b := fun b hb => by
  rcases mem_fpR.1 hb with e | e | e | e | e | ⟨x, hx, e⟩
  · exact .inl (mem_fpR.2 (.inl e))
  · exact .inl (mem_fpR.2 (.inr (.inl e)))
  · exact .inl (mem_fpR.2 (.inr (.inr (.inl e))))
  · exact .inl (mem_fpR.2 (.inr (.inr (.inr (.inl e)))))
  · exact .inl (mem_fpR.2 (.inr (.inr (.inr (.inr (.inl e))))))
  · exact .inr (by rw [e]; exact h x hx)
theorem fpR_next {w : World} {g gs gr : Nat} {am an an' ai : Option Addr} (h : ∀ x, an' = some x → w.heap.size ≤ x.block) : ∀ b, b ∈ fpR g gs gr am an' ai → b ∈ fpR g gs gr am an ai ∨ w.heap.size ≤ b := fun b hb => by
  rcases mem_fpR.1 hb with e | e | e | e | ⟨x, hx, e⟩ | e
  · exact .inl (mem_fpR.2 (.inl e))
  · exact .inl (mem_fpR.2 (.inr (.inl e)))
  · exact .inl (mem_fpR.2 (.inr (.inr (.inl e))))
  · exact .inl (mem_fpR.2 (.inr (.inr (.inr (.inl e)))))
  · exact .inr (by rw [e]; exact h x hx)
  · exact .inl (mem_fpR.2 (.inr (.inr (.inr (.inr (.inr e))))))
/-- The ledger within a function: what it was at the start lies at F0; local variables lie in L. -/
structure MtSt (F0 : List Nat) (w0 w : World) (L : List Nat) (R : World → Prop) (F : List Nat) (v : Value) (s : Ls) : Prop where
  ld : LmAt F w v s
  sub : ∀ b, b ∈ F → b ∈ F0 ∨ w0.heap.size ≤ b
  out : Out F0 w0 w
  st : Stable L R
  lt : ∀ b, b ∈ L → b < w.heap.size
  r : R w
  ap : ∀ b, b ∈ L → b ∉ F
  fr : ∀ b, b ∈ L → w0.heap.size ≤ b
section
variable {F0 : List Nat} {w0 w w' : World} {L : List Nat} {R : World → Prop} {F : List Nat} {v : Value} {s : Ls}
theorem MtSt.of (h : LmAt F w v s) : MtSt F w w [] (fun _ => True) F v s := ⟨h, fun _ hb => .inl hb, Out.of_below (Below.refl _ _), stable_true, (fun b hb => by cases hb), trivial, (fun b hb => by cases hb), (fun b hb => by cases hb)⟩
theorem MtSt.keep (h : MtSt F0 w0 w L R F v s) (hb : Below w.heap.size w w') : MtSt F0 w0 w' L R F v s :=
  ⟨h.ld.keep hb, h.sub, h.out.more hb, h.st, fun b hm => Nat.lt_of_lt_of_le (h.lt b hm) hb.size, h.st w w' h.r hb.size (fun b hm => hb.block b (h.lt b hm)), h.ap, h.fr⟩
theorem MtSt.drew (h : MtSt F0 w0 w L R F v s) : MtSt F0 w0 w.drew L R F v s := h.keep (Below.refl _ _).drew
theorem MtSt.to {s' : Ls} (h : MtSt F0 w0 w L R F v s) (ht : LmTo F w w' v s') : ∃ F', MtSt F0 w0 w' L R F' v s' := by
  obtain ⟨F', h1, h2, h3⟩ := ht
  refine ⟨F', h1, fun b hb => ?_, h.out.trans h3 h.sub, h.st, fun b hm => Nat.lt_of_lt_of_le (h.lt b hm) h3.size, h.st w w' h.r h3.size (fun b hm => h3.block b (h.lt b hm) (h.ap b hm)), fun b hm hF => ?_, h.fr⟩
  · rcases h2 b hb with h4 | h4
    · exact h.sub b h4
    · exact .inr (Nat.le_trans h.out.size h4)
  · rcases h2 b hF with h4 | h4
    · exact h.ap b hm h4
    · exact Nat.lt_irrefl _ (Nat.lt_of_lt_of_le (h.lt b hm) h4)
theorem MtSt.fresh {S : World → Prop} (h : MtSt F0 w0 w L R F v s) (hb : Below w.heap.size w w') (hs : Stable [w.heap.size] S) (hr : S w') (hl : w.heap.size < w'.heap.size) : MtSt F0 w0 w' ([w.heap.size] ++ L) (fun u => S u ∧ R u) F v s := by
  have h1 := h.keep hb
  refine ⟨h1.ld, h1.sub, h1.out, stable_and hs h.st, fun b hm => ?_, ⟨hr, h1.r⟩, fun b hm hF => ?_, fun b hm => ?_⟩
  · rcases List.mem_append.1 hm with e | e
    · rw [List.mem_singleton.1 e]; exact hl
    · exact h1.lt b e
  · rcases List.mem_append.1 hm with e | e
    · rw [List.mem_singleton.1 e] at hF; exact Nat.lt_irrefl _ (h.ld.lt _ hF)
    · exact h.ap b e hF
  · rcases List.mem_append.1 hm with e | e
    · rw [List.mem_singleton.1 e]; exact h.out.size
    · exact h.fr b e
/-- The last local variable is written. -/
theorem MtSt.upd {b : Nat} {S S' : World → Prop} (h : MtSt F0 w0 w ([b] ++ L) (fun u => S u ∧ R u) F v s) (st : Stable L R) (hb : b ∉ L) (ho : One b w w') (hs : Stable [b] S') (hr : S' w') : MtSt F0 w0 w' ([b] ++ L) (fun u => S' u ∧ R u) F v s := by
  have hbm : b ∈ [b] ++ L := List.mem_append.2 (.inl (List.mem_singleton.2 rfl))
  have hz : w.heap.size ≤ w'.heap.size := Nat.le_of_eq ho.size.symm
  exact ⟨h.ld.stay hz (fun k hk => ho.block k (fun e => h.ap b hbm (e ▸ hk))), h.sub, one_outR ho h.out (.inr (h.fr b hbm)), stable_and hs st, fun k hk => Nat.lt_of_lt_of_le (h.lt k hk) hz,
    ⟨hr, st w w' h.r.2 hz (fun k hk => ho.block k (fun e => hb (e ▸ hk)))⟩, h.ap, h.fr⟩
theorem MtSt.fin (h : MtSt F0 w0 w L R F v s) : LmTo F0 w0 w v s := ⟨F, h.ld, h.sub, h.out⟩
end
section
variable {F : List Nat} {w : World} {v : Value} {s : Ls}
theorem watT (h : LmAt F w v s) (hf : s.its.length ≤ 1000) (k : ByteArray) : Calls Tryz.prog 107 #[v, .string k] w fun e w' => e = .returned (.int .i64 (posZ k s.its)) ∧ Below w.heap.size w w' := by
  obtain ⟨g, gs, gr, am, an, ai, cm, cn, ci, rfl, rfl, h⟩ := h
  exact (wat_any h hf k).mono fun e w' ⟨h1, h2⟩ => ⟨h1, h2 ▸ Below.refl _ _⟩
theorem wtoldT (h : LmAt F w v s) (hf : s.its.length ≤ 1000) (k : ByteArray) (b : Nat) (hg : getK k s.its = some b) : Calls Tryz.prog 109 #[v, .string k] w fun e w' => e = .returned (.agg #[.int .i64 0, .float .f64 b]) ∧ Below w.heap.size w w' := by
  obtain ⟨g, gs, gr, am, an, ai, cm, cn, ci, rfl, rfl, h⟩ := h
  exact wtold_any h hf k b hg
theorem wputT (h : LmAt F w v s) (hf : s.its.length ≤ 1000) (k : ByteArray) (b : Nat) : Calls Tryz.prog 108 #[v, .string k, .int .u64 (b : Int)] w fun e w' => e = .returned (.tuple #[]) ∧ LmTo F w w' v { s with its := putK k b s.its } := by
  obtain ⟨g, gs, gr, am, an, ai, cm, cn, ci, rfl, rfl, h⟩ := h
  exact (wput_any h hf k b).mono fun e w' ⟨h1, ai', ci', h2, h3, h4⟩ => ⟨h1, _, h2.at, fpR_items h4, h3⟩
theorem wcutT (h : LmAt F w v s) (hf : s.its.length ≤ 1000) (k : ByteArray) : Calls Tryz.prog 112 #[v, .string k] w fun e w' => e = .returned (.tuple #[]) ∧ LmTo F w w' v { s with its := cutK k s.its } := by
  obtain ⟨g, gs, gr, am, an, ai, cm, cn, ci, rfl, rfl, h⟩ := h
  exact (wcut_any h hf k).mono fun e w' ⟨h1, ai', ci', h2, h3, h4⟩ => ⟨h1, _, h2.at, fpR_items h4, h3⟩
theorem wfullT (h : LmAt F w v s) (he : s.ep ≤ 1000) : Calls Tryz.prog 30 #[v] w fun e w' => e = .returned (.bool (fullS s)) ∧ Below w.heap.size w w' := by
  obtain ⟨g, gs, gr, am, an, ai, cm, cn, ci, rfl, rfl, h⟩ := h
  exact wfull_any h he
theorem LmAt.c4 {g : Nat} (h : LmAt F w (.pointer (some ⟨g, 0, none⟩)) s) : ∃ ai ci, w.cell? ⟨g, 4, none⟩ = some (.slice ai s.its.length ci) ∧ KbIn w ai s.its := by
  obtain ⟨g', gs, gr, am, an, ai, cm, cn, ci, hv, _, h⟩ := h
  cases hv
  exact ⟨ai, ci, h.c4, h.it⟩
end
end Go.Proofs.YtecidbdbdnnglaaGreat

/- The document's ledger: keyed, moved. -/
namespace Go.Proofs.YtecidbdbdnnglaaGreat
open Go.RowKit

theorem stable_op (b : Nat) (r : Rq) : Stable [b] (fun u => OpAt u b r) := fun _ _ h _ hb => (hb b (List.mem_singleton.2 rfl)).trans h
/-- At the start of a function of an operation. -/
theorem mt_start {F : List Nat} {w : World} {v : Value} {s : Ls} (h : LmAt F w v s) (r : Rq) :
    MtSt F w ((w.alloc (.cells #[.int .i64 r.k, .string r.key, .float .f64 r.b, .int .i64 r.id] 54)).alloc (.cells #[.int .i64 0, .float .f64 0] 50)) ([w.heap.size + 1] ++ ([w.heap.size] ++ [])) (fun u => RsAt u (w.heap.size + 1) 0 0 ∧ (OpAt u w.heap.size r ∧ True)) F v s := by
  have h1 := (MtSt.of h).fresh ((Below.refl w.heap.size w).alloc (Nat.le_refl _) (.cells #[.int .i64 r.k, .string r.key, .float .f64 r.b, .int .i64 r.id] 54)) (stable_op _ r) (heap_alloc_last w _) (by simp)
  have e : (w.alloc (.cells #[.int .i64 r.k, .string r.key, .float .f64 r.b, .int .i64 r.id] 54)).heap.size = w.heap.size + 1 := by simp
  have h2 := h1.fresh ((Below.refl _ _).alloc (Nat.le_refl _) (.cells #[.int .i64 0, .float .f64 0] 50)) (stable_rs _ 0 0) (heap_alloc_last _ _) (by simp)
  rw [e] at h2
  exact h2
section
variable {F0 : List Nat} {w0 w w' : World} {R : World → Prop} {F : List Nat} {v : Value} {s : Ls} {L : List Nat}
theorem MtSt.put {b : Nat} {c c' : Int} {f f' : Nat} (h : MtSt F0 w0 w ([b] ++ L) (fun u => RsAt u b c f ∧ R u) F v s) (st : Stable L R) (hb : b ∉ L) (hz : RsAt w' b c' f' ∧ One b w w') : MtSt F0 w0 w' ([b] ++ L) (fun u => RsAt u b c' f' ∧ R u) F v s := h.upd st hb hz.2 (stable_rs b c' f') hz.1
end
/-- The result is written last. -/
theorem mt_last {F0 : List Nat} {w0 w w' : World} {b c : Nat} {L : List Nat} {R : World → Prop} {S : World → Prop} {F : List Nat} {v : Value} {s : Ls} {x x' : Int} {f f' : Nat} (h : MtSt F0 w0 w ([c] ++ ([b] ++ L)) (fun u => S u ∧ (RsAt u b x f ∧ R u)) F v s) (_ : Stable L R) (_ : b ∉ L) (_ : b ≠ c) (_ : c ∉ L) (hz : RsAt w' b x' f' ∧ One b w w') : RsAt w' b x' f' ∧ LmTo F0 w0 w' v s := by
  have hm : b ∈ [c] ++ ([b] ++ L) := by simp
  exact ⟨hz.1, F, h.ld.stay (Nat.le_of_eq hz.2.size.symm) (fun k hk => hz.2.block k (fun e => h.ap b hm (e ▸ hk))), h.sub, one_outR hz.2 h.out (.inr (h.fr b hm))⟩
set_option maxRecDepth 100000 in
set_option maxHeartbeats 6400000 in
theorem wkeyed_full {F : List Nat} {w : World} {v : Value} {s : Ls} (h : LmAt F w v s) (r : Rq) (hf : s.its.length ≤ 16) (h1 : r.k = 1) (hg : getK r.key s.its = none) (hl : 16 ≤ s.its.length) :
    Calls Tryz.prog 70 #[v, .agg #[.int .i64 r.k, .string r.key, .float .f64 r.b, .int .i64 r.id]] w fun e w' => e = .returned (.agg #[.int .i64 2, .float .f64 0]) ∧ LmTo F w w' v s := by
  have hst : Stable ([w.heap.size] ++ []) (fun u => OpAt u w.heap.size r ∧ True) := stable_and (stable_op _ r) stable_true
  have hni : w.heap.size + 1 ∉ ([w.heap.size] ++ []) := by simp
  have H0 := hid (mt_start h r)
  obtain ⟨g, rfl⟩ := h.ptr
  have HSt := hid (And.intro hst hni)
  have HF := hid (show s.its.length ≤ 1000 by omega)
  have HAt : Hid (∀ (u : World) (G : List Nat), LmAt G u (.pointer (some ⟨g, 0, none⟩)) s → Calls Tryz.prog 107 #[(.pointer (some ⟨g, 0, none⟩)), .string r.key] u fun e w' => e = .returned (.int .i64 (-1)) ∧ Below u.heap.size u w') := hid (fun u G hu => by have := watT hu HF.out r.key; rw [posZ, if_pos hg] at this; exact this)
  clear h hst hni
  obtain ⟨d00, d1, d2, d3⟩ := H0.out.r.2.1.cells
  have HKd : Hid (some (Value.int .i64 r.k) = some (.int .i64 1)) := hid (by rw [h1])
  have d0 := d00.trans HKd.out
  clear d00
  have hl2 : (16 : Int) ≤ (s.its.length : Int) := by omega
  clear hf hl hg h1
  go_enter Tryz.func70, Tryz.ntmps70
  go_wp2_with (first
    | (go_at_call 107; refine (HAt.out _ _ H0.out.ld).mono ?_; rintro e w1 ⟨rfl, hb⟩; have H1 := hid (H0.out.keep hb); clear hb d0 d1 d2 d3; obtain ⟨d00, d1, d2, d3⟩ := H1.out.r.2.1.cells; have d0 := d00.trans HKd.out; clear d00; obtain ⟨ai, ci, c4, _⟩ := H1.out.ld.c4)
    | (have := H1; refine wl_store_rs rfl _ _ rfl (w.heap.size + 1) rfl 0 2 0 0 rfl H1.out.r.1 ?_; intro w2 Hz; have H2 := hid (H1.out.put HSt.out.1 HSt.out.2 Hz.out); clear Hz))
  refine ret_oneD (s := 4) (ad := ⟨w.heap.size + 1, 0, none⟩) rfl rfl (load_rs _ _ 2 0 H2.out.r.1) rfl ?_
  exact ⟨rfl, H2.out.fin⟩
set_option maxRecDepth 100000 in
set_option maxHeartbeats 6400000 in
theorem wkeyed_puta {F : List Nat} {w : World} {v : Value} {s : Ls} (h : LmAt F w v s) (r : Rq) (hf : s.its.length ≤ 16) (h1 : r.k = 1) (hg : getK r.key s.its = none) (hl : ¬ 16 ≤ s.its.length) :
    Calls Tryz.prog 70 #[v, .agg #[.int .i64 r.k, .string r.key, .float .f64 r.b, .int .i64 r.id]] w fun e w' => e = .returned (.agg #[.int .i64 0, .float .f64 (canW r.b)]) ∧ LmTo F w w' v { s with its := putK r.key (canW r.b) s.its } := by
  have hst : Stable ([w.heap.size] ++ []) (fun u => OpAt u w.heap.size r ∧ True) := stable_and (stable_op _ r) stable_true
  have hni : w.heap.size + 1 ∉ ([w.heap.size] ++ []) := by simp
  have H0 := hid (mt_start h r)
  obtain ⟨g, rfl⟩ := h.ptr
  have HSt := hid (And.intro hst hni)
  have HF := hid (show s.its.length ≤ 1000 by omega)
  have HAt : Hid (∀ (u : World) (G : List Nat), LmAt G u (.pointer (some ⟨g, 0, none⟩)) s → Calls Tryz.prog 107 #[(.pointer (some ⟨g, 0, none⟩)), .string r.key] u fun e w' => e = .returned (.int .i64 (-1)) ∧ Below u.heap.size u w') := hid (fun u G hu => by have := watT hu HF.out r.key; rw [posZ, if_pos hg] at this; exact this)
  have HPt : Hid (∀ (u : World) (G : List Nat), LmAt G u (.pointer (some ⟨g, 0, none⟩)) s → Calls Tryz.prog 108 #[(.pointer (some ⟨g, 0, none⟩)), .string r.key, .int .u64 ((canW r.b : Nat) : Int)] u fun e w' => e = .returned (.tuple #[]) ∧ LmTo G u w' (.pointer (some ⟨g, 0, none⟩)) { s with its := putK r.key (canW r.b) s.its }) := hid (fun u G hu => wputT hu HF.out r.key _)
  have HTd : Hid (∀ (u : World) (G : List Nat), LmAt G u (.pointer (some ⟨g, 0, none⟩)) { s with its := putK r.key (canW r.b) s.its } → Calls Tryz.prog 109 #[(.pointer (some ⟨g, 0, none⟩)), .string r.key] u fun e w' => e = .returned (.agg #[.int .i64 0, .float .f64 (canW r.b)]) ∧ Below u.heap.size u w') := hid (fun u G hu => wtoldT hu (Nat.le_trans (outB_len s.its) (by have := hf; omega)) r.key _ get_put)
  clear h hst hni
  obtain ⟨d00, d1, d2, d3⟩ := H0.out.r.2.1.cells
  have HKd : Hid (some (Value.int .i64 r.k) = some (.int .i64 1)) := hid (by rw [h1])
  have d0 := d00.trans HKd.out
  clear d00
  have hl2 : ¬ (16 : Int) ≤ (s.its.length : Int) := by omega
  clear hf hl hg h1
  generalize { s with its := putK r.key (canW r.b) s.its } = S2 at *
  go_enter Tryz.func70, Tryz.ntmps70
  go_wp2_with (first
    | (go_at_call 107; refine (HAt.out _ _ H0.out.ld).mono ?_; rintro e w1 ⟨rfl, hb⟩; have H1 := hid (H0.out.keep hb); clear hb d0 d1 d2 d3; obtain ⟨d00, d1, d2, d3⟩ := H1.out.r.2.1.cells; have d0 := d00.trans HKd.out; clear d00; obtain ⟨ai, ci, c4, _⟩ := H1.out.ld.c4))
  have H2 := hid H1.out.drew
  clear d0 d1 d2 d3
  refine wp_region_held (S := fun ww => OpAt ww w.heap.size r) (by kernel_rfl) ?_
  try (change wpAnyH _ _ _ _ _ _ _ _ (World.drew _))
  refine wpAnyH_take (i := 0) (v := ?v1) rfl (by kernel_rfl) (by kernel_rfl) (by kernel_rfl) (fun _ _ _ h => h) (Or.inl ⟨by rfl, ?hy1⟩) H2.out.r.2.1 ?rest1
  case hy1 => (intro ww _; go_simp; try with_reducible rfl)
  go_simp
  refine wpAnyH_take (i := 1) (v := ?v2) rfl (by kernel_rfl) (by kernel_rfl) (by kernel_rfl) (fun _ _ _ h => h) (Or.inl ⟨by rfl, ?hy2⟩) H2.out.r.2.1 ?rest2
  case hy2 => (intro ww _; go_simp; try with_reducible rfl)
  go_simp
  refine wpAnyH_take (i := 2) (v := ?v3) rfl (by kernel_rfl) (by kernel_rfl) (by kernel_rfl) (fun _ _ _ h => h) (Or.inl ⟨by rfl, ?hy3⟩) H2.out.r.2.1 ?rest3
  case hy3 => (intro ww hS; obtain ⟨y0, y1, y2, y3⟩ := OpAt.cells hS; go_simp; try with_reducible rfl)
  go_simp
  refine wpAnyH_take (i := 3) (v := ?v4) rfl (by kernel_rfl) (by kernel_rfl) (by kernel_rfl) (fun _ _ _ h => h) (Or.inl ⟨by rfl, ?hy4⟩) H2.out.r.2.1 ?rest4
  case hy4 => (intro ww _; go_simp; try with_reducible rfl)
  go_simp
  refine wpAnyH_take (i := 4) (v := ?v5) rfl (by kernel_rfl) (by kernel_rfl) (by kernel_rfl) (fun _ _ _ h => h) (Or.inl ⟨by rfl, ?hy5⟩) H2.out.r.2.1 ?rest5
  case hy5 => (intro ww hS; obtain ⟨y0, y1, y2, y3⟩ := OpAt.cells hS; go_simp; try with_reducible rfl)
  go_simp
  refine wpAnyH_all (rs := [5]) (by kernel_rfl) (by simp) ?_
  intro i hi
  obtain rfl := List.mem_singleton.1 hi
  clear hi
  refine wpOp_d rfl (by rfl) (fun K hK => ?_)
  go_simp
  refine (kbits_any r.b _).mono ?_
  rintro e wa ⟨rfl, hb⟩
  have HB := hid (H2.out.keep (show Below _ _ wa by rw [hb]; exact Below.refl _ _))
  clear hb
  refine hK _ _ ⟨HB.out.r.2.1, ?_⟩
  clear hK K
  go_simp
  refine wpAnyH_all (rs := [6]) (by kernel_rfl) (by simp) ?_
  intro i hi
  obtain rfl := List.mem_singleton.1 hi
  clear hi
  refine wpOp_d rfl (by rfl) (fun K hK => ?_)
  go_simp
  refine (HPt.out _ _ HB.out.ld).mono ?_
  rintro e wb ⟨rfl, hb⟩
  have HC0 := hid (HB.out.to hb)
  clear hb
  obtain ⟨FC, hc0⟩ := HC0.out
  have HC := hid hc0
  clear hc0 HC0
  refine hK _ _ ⟨HC.out.r.2.1, ?_⟩
  clear hK K
  go_simp
  refine wpAnyH_done (by kernel_rfl) ?_ _
  go_simp
  obtain ⟨d00, d1, d2, d3⟩ := HC.out.r.2.1.cells
  have d0 := d00.trans HKd.out
  clear d00
  go_wp2_with (first
    | (have := H4; refine wl_store_rs rfl _ _ rfl (w.heap.size + 1) rfl 0 0 0 (canW r.b) rfl H4.out.r.1 ?_; intro w5 Hz; have H5 := hid (H4.out.put HSt.out.1 HSt.out.2 Hz.out); clear Hz)
    | (go_at_call 109; refine (HTd.out _ _ HC.out.ld).mono ?_; rintro e w4 ⟨rfl, hb⟩; have H4 := hid (HC.out.keep hb); clear hb))
  refine ret_oneD (s := 4) (ad := ⟨w.heap.size + 1, 0, none⟩) rfl rfl (load_rs _ _ 0 (canW r.b) H5.out.r.1) rfl ?_
  exact ⟨rfl, H5.out.fin⟩
set_option maxRecDepth 100000 in
set_option maxHeartbeats 6400000 in
theorem wkeyed_putb {F : List Nat} {w : World} {v : Value} {s : Ls} (h : LmAt F w v s) (r : Rq) (hf : s.its.length ≤ 16) (h1 : r.k = 1) (x : Nat) (hg : getK r.key s.its = some x) :
    Calls Tryz.prog 70 #[v, .agg #[.int .i64 r.k, .string r.key, .float .f64 r.b, .int .i64 r.id]] w fun e w' => e = .returned (.agg #[.int .i64 0, .float .f64 (canW r.b)]) ∧ LmTo F w w' v { s with its := putK r.key (canW r.b) s.its } := by
  have hst : Stable ([w.heap.size] ++ []) (fun u => OpAt u w.heap.size r ∧ True) := stable_and (stable_op _ r) stable_true
  have hni : w.heap.size + 1 ∉ ([w.heap.size] ++ []) := by simp
  have H0 := hid (mt_start h r)
  obtain ⟨g, rfl⟩ := h.ptr
  have HSt := hid (And.intro hst hni)
  have HF := hid (show s.its.length ≤ 1000 by omega)
  have HAt : Hid (∀ (u : World) (G : List Nat), LmAt G u (.pointer (some ⟨g, 0, none⟩)) s → Calls Tryz.prog 107 #[(.pointer (some ⟨g, 0, none⟩)), .string r.key] u fun e w' => e = .returned (.int .i64 (posK r.key s.its : Int)) ∧ Below u.heap.size u w') := hid (fun u G hu => by have := watT hu HF.out r.key; rw [posZ, if_neg (by rw [hg]; simp)] at this; exact this)
  have HPt : Hid (∀ (u : World) (G : List Nat), LmAt G u (.pointer (some ⟨g, 0, none⟩)) s → Calls Tryz.prog 108 #[(.pointer (some ⟨g, 0, none⟩)), .string r.key, .int .u64 ((canW r.b : Nat) : Int)] u fun e w' => e = .returned (.tuple #[]) ∧ LmTo G u w' (.pointer (some ⟨g, 0, none⟩)) { s with its := putK r.key (canW r.b) s.its }) := hid (fun u G hu => wputT hu HF.out r.key _)
  have HTd : Hid (∀ (u : World) (G : List Nat), LmAt G u (.pointer (some ⟨g, 0, none⟩)) { s with its := putK r.key (canW r.b) s.its } → Calls Tryz.prog 109 #[(.pointer (some ⟨g, 0, none⟩)), .string r.key] u fun e w' => e = .returned (.agg #[.int .i64 0, .float .f64 (canW r.b)]) ∧ Below u.heap.size u w') := hid (fun u G hu => wtoldT hu (Nat.le_trans (outB_len s.its) (by have := hf; omega)) r.key _ get_put)
  clear h hst hni
  obtain ⟨d00, d1, d2, d3⟩ := H0.out.r.2.1.cells
  have HKd : Hid (some (Value.int .i64 r.k) = some (.int .i64 1)) := hid (by rw [h1])
  have d0 := d00.trans HKd.out
  clear d00
  have hp0 : ¬ ((posK r.key s.its : Int) < 0) := by have := Int.natCast_nonneg (posK r.key s.its); omega
  clear hf hg h1
  generalize (posK r.key s.its : Int) = P at *
  generalize { s with its := putK r.key (canW r.b) s.its } = S2 at *
  go_enter Tryz.func70, Tryz.ntmps70
  go_wp2_with (first
    | (go_at_call 107; refine (HAt.out _ _ H0.out.ld).mono ?_; rintro e w1 ⟨rfl, hb⟩; have H1 := hid (H0.out.keep hb); clear hb d0 d1 d2 d3; obtain ⟨d00, d1, d2, d3⟩ := H1.out.r.2.1.cells; have d0 := d00.trans HKd.out; clear d00))
  have H2 := hid H1.out.drew
  clear d0 d1 d2 d3
  refine wp_region_held (S := fun ww => OpAt ww w.heap.size r) (by kernel_rfl) ?_
  try (change wpAnyH _ _ _ _ _ _ _ _ (World.drew _))
  refine wpAnyH_take (i := 0) (v := ?v1) rfl (by kernel_rfl) (by kernel_rfl) (by kernel_rfl) (fun _ _ _ h => h) (Or.inl ⟨by rfl, ?hy1⟩) H2.out.r.2.1 ?rest1
  case hy1 => (intro ww _; go_simp; try with_reducible rfl)
  go_simp
  refine wpAnyH_take (i := 1) (v := ?v2) rfl (by kernel_rfl) (by kernel_rfl) (by kernel_rfl) (fun _ _ _ h => h) (Or.inl ⟨by rfl, ?hy2⟩) H2.out.r.2.1 ?rest2
  case hy2 => (intro ww _; go_simp; try with_reducible rfl)
  go_simp
  refine wpAnyH_take (i := 2) (v := ?v3) rfl (by kernel_rfl) (by kernel_rfl) (by kernel_rfl) (fun _ _ _ h => h) (Or.inl ⟨by rfl, ?hy3⟩) H2.out.r.2.1 ?rest3
  case hy3 => (intro ww hS; obtain ⟨y0, y1, y2, y3⟩ := OpAt.cells hS; go_simp; try with_reducible rfl)
  go_simp
  refine wpAnyH_take (i := 3) (v := ?v4) rfl (by kernel_rfl) (by kernel_rfl) (by kernel_rfl) (fun _ _ _ h => h) (Or.inl ⟨by rfl, ?hy4⟩) H2.out.r.2.1 ?rest4
  case hy4 => (intro ww _; go_simp; try with_reducible rfl)
  go_simp
  refine wpAnyH_take (i := 4) (v := ?v5) rfl (by kernel_rfl) (by kernel_rfl) (by kernel_rfl) (fun _ _ _ h => h) (Or.inl ⟨by rfl, ?hy5⟩) H2.out.r.2.1 ?rest5
  case hy5 => (intro ww hS; obtain ⟨y0, y1, y2, y3⟩ := OpAt.cells hS; go_simp; try with_reducible rfl)
  go_simp
  refine wpAnyH_all (rs := [5]) (by kernel_rfl) (by simp) ?_
  intro i hi
  obtain rfl := List.mem_singleton.1 hi
  clear hi
  refine wpOp_d rfl (by rfl) (fun K hK => ?_)
  go_simp
  refine (kbits_any r.b _).mono ?_
  rintro e wa ⟨rfl, hb⟩
  have HB := hid (H2.out.keep (show Below _ _ wa by rw [hb]; exact Below.refl _ _))
  clear hb
  refine hK _ _ ⟨HB.out.r.2.1, ?_⟩
  clear hK K
  go_simp
  refine wpAnyH_all (rs := [6]) (by kernel_rfl) (by simp) ?_
  intro i hi
  obtain rfl := List.mem_singleton.1 hi
  clear hi
  refine wpOp_d rfl (by rfl) (fun K hK => ?_)
  go_simp
  refine (HPt.out _ _ HB.out.ld).mono ?_
  rintro e wb ⟨rfl, hb⟩
  have HC0 := hid (HB.out.to hb)
  clear hb
  obtain ⟨FC, hc0⟩ := HC0.out
  have HC := hid hc0
  clear hc0 HC0
  refine hK _ _ ⟨HC.out.r.2.1, ?_⟩
  clear hK K
  go_simp
  refine wpAnyH_done (by kernel_rfl) ?_ _
  go_simp
  obtain ⟨d00, d1, d2, d3⟩ := HC.out.r.2.1.cells
  have d0 := d00.trans HKd.out
  clear d00
  go_wp2_with (first
    | (have := H4; refine wl_store_rs rfl _ _ rfl (w.heap.size + 1) rfl 0 0 0 (canW r.b) rfl H4.out.r.1 ?_; intro w5 Hz; have H5 := hid (H4.out.put HSt.out.1 HSt.out.2 Hz.out); clear Hz)
    | (go_at_call 109; refine (HTd.out _ _ HC.out.ld).mono ?_; rintro e w4 ⟨rfl, hb⟩; have H4 := hid (HC.out.keep hb); clear hb))
  refine ret_oneD (s := 4) (ad := ⟨w.heap.size + 1, 0, none⟩) rfl rfl (load_rs _ _ 0 (canW r.b) H5.out.r.1) rfl ?_
  exact ⟨rfl, H5.out.fin⟩
set_option maxRecDepth 100000 in
set_option maxHeartbeats 6400000 in
theorem wkeyed_none {F : List Nat} {w : World} {v : Value} {s : Ls} (h : LmAt F w v s) (r : Rq) (hf : s.its.length ≤ 16) (h1 : ¬ r.k = 1) (hg : getK r.key s.its = none) :
    Calls Tryz.prog 70 #[v, .agg #[.int .i64 r.k, .string r.key, .float .f64 r.b, .int .i64 r.id]] w fun e w' => e = .returned (.agg #[.int .i64 1, .float .f64 0]) ∧ LmTo F w w' v s := by
  have hst : Stable ([w.heap.size] ++ []) (fun u => OpAt u w.heap.size r ∧ True) := stable_and (stable_op _ r) stable_true
  have hni : w.heap.size + 1 ∉ ([w.heap.size] ++ []) := by simp
  have H0 := hid (mt_start h r)
  obtain ⟨g, rfl⟩ := h.ptr
  have HSt := hid (And.intro hst hni)
  have HF := hid (show s.its.length ≤ 1000 by omega)
  have HAt : Hid (∀ (u : World) (G : List Nat), LmAt G u (.pointer (some ⟨g, 0, none⟩)) s → Calls Tryz.prog 107 #[(.pointer (some ⟨g, 0, none⟩)), .string r.key] u fun e w' => e = .returned (.int .i64 (-1)) ∧ Below u.heap.size u w') := hid (fun u G hu => by have := watT hu HF.out r.key; rw [posZ, if_pos hg] at this; exact this)
  clear h hst hni
  obtain ⟨d00, d1, d2, d3⟩ := H0.out.r.2.1.cells
  have HKd : Hid (some (Value.int .i64 r.k) = some (.int .i64 r.k)) := hid rfl
  have d0 := d00.trans HKd.out
  clear d00
  clear hf hg
  go_enter Tryz.func70, Tryz.ntmps70
  go_wp2_with (first
    | (go_at_call 107; refine (HAt.out _ _ H0.out.ld).mono ?_; rintro e w1 ⟨rfl, hb⟩; have H1 := hid (H0.out.keep hb); clear hb d0 d1 d2 d3; obtain ⟨d00, d1, d2, d3⟩ := H1.out.r.2.1.cells; have d0 := d00.trans HKd.out; clear d00)
    | (have := H1; refine wl_store_rs rfl _ _ rfl (w.heap.size + 1) rfl 0 1 0 0 rfl H1.out.r.1 ?_; intro w2 Hz; have H2 := hid (H1.out.put HSt.out.1 HSt.out.2 Hz.out); clear Hz))
  refine ret_oneD (s := 4) (ad := ⟨w.heap.size + 1, 0, none⟩) rfl rfl (load_rs _ _ 1 0 H2.out.r.1) rfl ?_
  exact ⟨rfl, H2.out.fin⟩
set_option maxRecDepth 100000 in
set_option maxHeartbeats 6400000 in
theorem wkeyed_add {F : List Nat} {w : World} {v : Value} {s : Ls} (h : LmAt F w v s) (r : Rq) (hf : s.its.length ≤ 16) (h1 : r.k = 2) (x : Nat) (hg : getK r.key s.its = some x) (hx : x < 18446744073709551616) (hb0 : r.b < 18446744073709551616) :
    Calls Tryz.prog 70 #[v, .agg #[.int .i64 r.k, .string r.key, .float .f64 r.b, .int .i64 r.id]] w fun e w' => e = .returned (.agg #[.int .i64 0, .float .f64 (addW x r.b)]) ∧ LmTo F w w' v { s with its := putK r.key (addW x r.b) s.its } := by
  have hst : Stable ([w.heap.size] ++ []) (fun u => OpAt u w.heap.size r ∧ True) := stable_and (stable_op _ r) stable_true
  have hni : w.heap.size + 1 ∉ ([w.heap.size] ++ []) := by simp
  have H0 := hid (mt_start h r)
  obtain ⟨g, rfl⟩ := h.ptr
  have HSt := hid (And.intro hst hni)
  have HF := hid (show s.its.length ≤ 1000 by omega)
  have HAt : Hid (∀ (u : World) (G : List Nat), LmAt G u (.pointer (some ⟨g, 0, none⟩)) s → Calls Tryz.prog 107 #[(.pointer (some ⟨g, 0, none⟩)), .string r.key] u fun e w' => e = .returned (.int .i64 (posK r.key s.its : Int)) ∧ Below u.heap.size u w') := hid (fun u G hu => by have := watT hu HF.out r.key; rw [posZ, if_neg (by rw [hg]; simp)] at this; exact this)
  have HPt : Hid (∀ (u : World) (G : List Nat), LmAt G u (.pointer (some ⟨g, 0, none⟩)) s → Calls Tryz.prog 108 #[(.pointer (some ⟨g, 0, none⟩)), .string r.key, .int .u64 (((addW x r.b) : Nat) : Int)] u fun e w' => e = .returned (.tuple #[]) ∧ LmTo G u w' (.pointer (some ⟨g, 0, none⟩)) { s with its := putK r.key ((addW x r.b)) s.its }) := hid (fun u G hu => wputT hu HF.out r.key _)
  have HTd : Hid (∀ (u : World) (G : List Nat), LmAt G u (.pointer (some ⟨g, 0, none⟩)) { s with its := putK r.key (addW x r.b) s.its } → Calls Tryz.prog 109 #[(.pointer (some ⟨g, 0, none⟩)), .string r.key] u fun e w' => e = .returned (.agg #[.int .i64 0, .float .f64 (addW x r.b)]) ∧ Below u.heap.size u w') := hid (fun u G hu => wtoldT hu (Nat.le_trans (outB_len s.its) (by have := hf; omega)) r.key _ get_put)
  have HPs := hid (pos_at hg)
  have hp1 : (posK r.key s.its : Int) < (s.its.length : Int) := by have := (List.getElem?_eq_some_iff.1 (pos_at hg)).1; omega
  have hp0 : (0 : Int) ≤ (posK r.key s.its : Int) := Int.natCast_nonneg _
  have HXB := hid (And.intro hx hb0)
  clear h hst hni
  obtain ⟨d00, d1, d2, d3⟩ := H0.out.r.2.1.cells
  have HKd : Hid (some (Value.int .i64 r.k) = some (.int .i64 2)) := hid (by rw [h1])
  have d0 := d00.trans HKd.out
  clear d00
  clear hf hg h1 hx hb0
  generalize { s with its := putK r.key (addW x r.b) s.its } = S2 at *
  generalize posK r.key s.its = p at *
  go_enter Tryz.func70, Tryz.ntmps70
  go_wp2_with (first
    | (go_at_call 107; refine (HAt.out _ _ H0.out.ld).mono ?_; rintro e w1 ⟨rfl, hb⟩; have H1 := hid (H0.out.keep hb); clear hb d0 d1 d2 d3; obtain ⟨d00, d1, d2, d3⟩ := H1.out.r.2.1.cells; have d0 := d00.trans HKd.out; clear d00; obtain ⟨ai, ci, c4, hkb⟩ := H1.out.ld.c4; obtain ⟨ga, off, rfl, hc1, hc2⟩ := hkb.at _ _ HPs.out; clear hkb)
    | rw [ff_run])
  have H2 := hid H1.out.drew
  clear d0 d1 d2 d3 c4 hc1 hc2
  refine wp_region_held (S := fun ww => OpAt ww w.heap.size r) (by kernel_rfl) ?_
  try (change wpAnyH _ _ _ _ _ _ _ _ (World.drew _))
  refine wpAnyH_take (i := 0) (v := ?v1) rfl (by kernel_rfl) (by kernel_rfl) (by kernel_rfl) (fun _ _ _ h => h) (Or.inl ⟨by rfl, ?hy1⟩) H2.out.r.2.1 ?rest1
  case hy1 => (intro ww _; go_simp; try with_reducible rfl)
  go_simp
  refine wpAnyH_take (i := 1) (v := ?v2) rfl (by kernel_rfl) (by kernel_rfl) (by kernel_rfl) (fun _ _ _ h => h) (Or.inl ⟨by rfl, ?hy2⟩) H2.out.r.2.1 ?rest2
  case hy2 => (intro ww _; go_simp; try with_reducible rfl)
  go_simp
  refine wpAnyH_take (i := 2) (v := ?v3) rfl (by kernel_rfl) (by kernel_rfl) (by kernel_rfl) (fun _ _ _ h => h) (Or.inl ⟨by rfl, ?hy3⟩) H2.out.r.2.1 ?rest3
  case hy3 => (intro ww hS; obtain ⟨y0, y1, y2, y3⟩ := OpAt.cells hS; go_simp; try with_reducible rfl)
  go_simp
  refine wpAnyH_take (i := 3) (v := ?v4) rfl (by kernel_rfl) (by kernel_rfl) (by kernel_rfl) (fun _ _ _ h => h) (Or.inl ⟨by rfl, ?hy4⟩) H2.out.r.2.1 ?rest4
  case hy4 => (intro ww _; go_simp; try with_reducible rfl)
  go_simp
  refine wpAnyH_take (i := 4) (v := ?v5) rfl (by kernel_rfl) (by kernel_rfl) (by kernel_rfl) (fun _ _ _ h => h) (Or.inl ⟨by rfl, ?hy5⟩) H2.out.r.2.1 ?rest5
  case hy5 => (intro ww _; go_simp; try with_reducible rfl)
  go_simp
  refine wpAnyH_take (i := 5) (v := ?v6) rfl (by kernel_rfl) (by kernel_rfl) (by kernel_rfl) (fun _ _ _ h => h) (Or.inl ⟨by rfl, ?hy6⟩) H2.out.r.2.1 ?rest6
  case hy6 => (intro ww hS; obtain ⟨y0, y1, y2, y3⟩ := OpAt.cells hS; go_simp; try with_reducible rfl)
  go_simp
  refine wpAnyH_all (rs := [6]) (by kernel_rfl) (by simp) ?_
  intro i hi
  obtain rfl := List.mem_singleton.1 hi
  clear hi
  refine wpOp_d rfl (by rfl) (fun K hK => ?_)
  go_simp
  refine (kadd_any x r.b _).mono ?_
  rintro e wa ⟨rfl, hb⟩
  have HB := hid (H2.out.keep hb.below)
  clear hb
  refine hK _ _ ⟨HB.out.r.2.1, ?_⟩
  clear hK K
  go_simp
  refine wpAnyH_all (rs := [7]) (by kernel_rfl) (by simp) ?_
  intro i hi
  obtain rfl := List.mem_singleton.1 hi
  clear hi
  refine wpOp_d rfl (by rfl) (fun K hK => ?_)
  go_simp
  refine (HPt.out _ _ HB.out.ld).mono ?_
  rintro e wb ⟨rfl, hb⟩
  have HC0 := hid (HB.out.to hb)
  clear hb
  obtain ⟨FC, hc0⟩ := HC0.out
  have HC := hid hc0
  clear hc0 HC0
  refine hK _ _ ⟨HC.out.r.2.1, ?_⟩
  clear hK K
  go_simp
  refine wpAnyH_done (by kernel_rfl) ?_ _
  go_simp
  obtain ⟨d00, d1, d2, d3⟩ := HC.out.r.2.1.cells
  have d0 := d00.trans HKd.out
  clear d00
  go_wp2_with (first
    | (have := H5; refine wl_store_rs rfl _ _ rfl (w.heap.size + 1) rfl 0 0 0 (addW x r.b) rfl H5.out.r.2.1 ?_; intro w7 Hz; have H7 := hid (mt_last H5.out HSt.out.1 HSt.out.2 (by have := HW4.out; omega) (by have := HW4.out; simp; omega) Hz.out); clear Hz)
    | (have := H4; refine wl_store_rs rfl _ _ rfl w4.heap.size rfl 0 0 0 (addW x r.b) rfl (heap_alloc_last w4 _) ?_; intro w5 Hz; have H5 := hid (H4.out.fresh (Hz.out.2.below ((Below.refl w4.heap.size w4).alloc (Nat.le_refl _) _) (Nat.le_refl _)) (stable_rs _ 0 (addW x r.b)) Hz.out.1 (lt_of_blk Hz.out.1)); clear Hz d0 d1 d2 d3; have HW4 := hid (And.intro (H4.out.lt (w.heap.size + 1) (by simp)) (H4.out.lt w.heap.size (by simp))); obtain ⟨d00, d1, d2, d3⟩ := H5.out.r.2.2.1.cells; have d0 := d00.trans HKd.out; clear d00; obtain ⟨z0, z1⟩ := H5.out.r.1.cells)
    | (go_at_call 109; refine (HTd.out _ _ HC.out.ld).mono ?_; rintro e w4 ⟨rfl, hb⟩; have H4 := hid (HC.out.keep hb); clear hb d0 d1 d2 d3; obtain ⟨d00, d1, d2, d3⟩ := H4.out.r.2.1.cells; have d0 := d00.trans HKd.out; clear d00))
  refine ret_oneD (s := 4) (ad := ⟨w.heap.size + 1, 0, none⟩) rfl rfl (load_rs _ _ 0 (addW x r.b) H7.out.1) rfl ?_
  exact ⟨rfl, H7.out.2⟩
set_option maxRecDepth 100000 in
set_option maxHeartbeats 6400000 in
theorem wkeyed_most {F : List Nat} {w : World} {v : Value} {s : Ls} (h : LmAt F w v s) (r : Rq) (hf : s.its.length ≤ 16) (h1 : r.k = 3) (x : Nat) (hg : getK r.key s.its = some x) (hx : x < 18446744073709551616) (hb0 : r.b < 18446744073709551616) :
    Calls Tryz.prog 70 #[v, .agg #[.int .i64 r.k, .string r.key, .float .f64 r.b, .int .i64 r.id]] w fun e w' => e = .returned (.agg #[.int .i64 0, .float .f64 (mostW x r.b)]) ∧ LmTo F w w' v { s with its := putK r.key (mostW x r.b) s.its } := by
  have hst : Stable ([w.heap.size] ++ []) (fun u => OpAt u w.heap.size r ∧ True) := stable_and (stable_op _ r) stable_true
  have hni : w.heap.size + 1 ∉ ([w.heap.size] ++ []) := by simp
  have H0 := hid (mt_start h r)
  obtain ⟨g, rfl⟩ := h.ptr
  have HSt := hid (And.intro hst hni)
  have HF := hid (show s.its.length ≤ 1000 by omega)
  have HAt : Hid (∀ (u : World) (G : List Nat), LmAt G u (.pointer (some ⟨g, 0, none⟩)) s → Calls Tryz.prog 107 #[(.pointer (some ⟨g, 0, none⟩)), .string r.key] u fun e w' => e = .returned (.int .i64 (posK r.key s.its : Int)) ∧ Below u.heap.size u w') := hid (fun u G hu => by have := watT hu HF.out r.key; rw [posZ, if_neg (by rw [hg]; simp)] at this; exact this)
  have HPt : Hid (∀ (u : World) (G : List Nat), LmAt G u (.pointer (some ⟨g, 0, none⟩)) s → Calls Tryz.prog 108 #[(.pointer (some ⟨g, 0, none⟩)), .string r.key, .int .u64 (((mostW x r.b) : Nat) : Int)] u fun e w' => e = .returned (.tuple #[]) ∧ LmTo G u w' (.pointer (some ⟨g, 0, none⟩)) { s with its := putK r.key ((mostW x r.b)) s.its }) := hid (fun u G hu => wputT hu HF.out r.key _)
  have HTd : Hid (∀ (u : World) (G : List Nat), LmAt G u (.pointer (some ⟨g, 0, none⟩)) { s with its := putK r.key (mostW x r.b) s.its } → Calls Tryz.prog 109 #[(.pointer (some ⟨g, 0, none⟩)), .string r.key] u fun e w' => e = .returned (.agg #[.int .i64 0, .float .f64 (mostW x r.b)]) ∧ Below u.heap.size u w') := hid (fun u G hu => wtoldT hu (Nat.le_trans (outB_len s.its) (by have := hf; omega)) r.key _ get_put)
  have HPs := hid (pos_at hg)
  have hp1 : (posK r.key s.its : Int) < (s.its.length : Int) := by have := (List.getElem?_eq_some_iff.1 (pos_at hg)).1; omega
  have hp0 : (0 : Int) ≤ (posK r.key s.its : Int) := Int.natCast_nonneg _
  have HXB := hid (And.intro hx hb0)
  clear h hst hni
  obtain ⟨d00, d1, d2, d3⟩ := H0.out.r.2.1.cells
  have HKd : Hid (some (Value.int .i64 r.k) = some (.int .i64 3)) := hid (by rw [h1])
  have d0 := d00.trans HKd.out
  clear d00
  clear hf hg h1 hx hb0
  generalize { s with its := putK r.key (mostW x r.b) s.its } = S2 at *
  generalize posK r.key s.its = p at *
  go_enter Tryz.func70, Tryz.ntmps70
  go_wp2_with (first
    | (go_at_call 107; refine (HAt.out _ _ H0.out.ld).mono ?_; rintro e w1 ⟨rfl, hb⟩; have H1 := hid (H0.out.keep hb); clear hb d0 d1 d2 d3; obtain ⟨d00, d1, d2, d3⟩ := H1.out.r.2.1.cells; have d0 := d00.trans HKd.out; clear d00; obtain ⟨ai, ci, c4, hkb⟩ := H1.out.ld.c4; obtain ⟨ga, off, rfl, hc1, hc2⟩ := hkb.at _ _ HPs.out; clear hkb)
    | rw [ff_run])
  have H2 := hid H1.out.drew
  clear d0 d1 d2 d3 c4 hc1 hc2
  refine wp_region_held (S := fun ww => OpAt ww w.heap.size r) (by kernel_rfl) ?_
  try (change wpAnyH _ _ _ _ _ _ _ _ (World.drew _))
  refine wpAnyH_take (i := 0) (v := ?v1) rfl (by kernel_rfl) (by kernel_rfl) (by kernel_rfl) (fun _ _ _ h => h) (Or.inl ⟨by rfl, ?hy1⟩) H2.out.r.2.1 ?rest1
  case hy1 => (intro ww _; go_simp; try with_reducible rfl)
  go_simp
  refine wpAnyH_take (i := 1) (v := ?v2) rfl (by kernel_rfl) (by kernel_rfl) (by kernel_rfl) (fun _ _ _ h => h) (Or.inl ⟨by rfl, ?hy2⟩) H2.out.r.2.1 ?rest2
  case hy2 => (intro ww _; go_simp; try with_reducible rfl)
  go_simp
  refine wpAnyH_take (i := 2) (v := ?v3) rfl (by kernel_rfl) (by kernel_rfl) (by kernel_rfl) (fun _ _ _ h => h) (Or.inl ⟨by rfl, ?hy3⟩) H2.out.r.2.1 ?rest3
  case hy3 => (intro ww hS; obtain ⟨y0, y1, y2, y3⟩ := OpAt.cells hS; go_simp; try with_reducible rfl)
  go_simp
  refine wpAnyH_take (i := 3) (v := ?v4) rfl (by kernel_rfl) (by kernel_rfl) (by kernel_rfl) (fun _ _ _ h => h) (Or.inl ⟨by rfl, ?hy4⟩) H2.out.r.2.1 ?rest4
  case hy4 => (intro ww _; go_simp; try with_reducible rfl)
  go_simp
  refine wpAnyH_take (i := 4) (v := ?v5) rfl (by kernel_rfl) (by kernel_rfl) (by kernel_rfl) (fun _ _ _ h => h) (Or.inl ⟨by rfl, ?hy5⟩) H2.out.r.2.1 ?rest5
  case hy5 => (intro ww _; go_simp; try with_reducible rfl)
  go_simp
  refine wpAnyH_take (i := 5) (v := ?v6) rfl (by kernel_rfl) (by kernel_rfl) (by kernel_rfl) (fun _ _ _ h => h) (Or.inl ⟨by rfl, ?hy6⟩) H2.out.r.2.1 ?rest6
  case hy6 => (intro ww hS; obtain ⟨y0, y1, y2, y3⟩ := OpAt.cells hS; go_simp; try with_reducible rfl)
  go_simp
  refine wpAnyH_all (rs := [6]) (by kernel_rfl) (by simp) ?_
  intro i hi
  obtain rfl := List.mem_singleton.1 hi
  clear hi
  refine wpOp_d rfl (by rfl) (fun K hK => ?_)
  go_simp
  refine (kmost_any x r.b HXB.out.1 HXB.out.2 _).mono ?_
  rintro e wa ⟨rfl, hb⟩
  have HB := hid (H2.out.keep (show Below _ _ wa by rw [hb]; exact Below.refl _ _))
  clear hb
  refine hK _ _ ⟨HB.out.r.2.1, ?_⟩
  clear hK K
  go_simp
  refine wpAnyH_all (rs := [7]) (by kernel_rfl) (by simp) ?_
  intro i hi
  obtain rfl := List.mem_singleton.1 hi
  clear hi
  refine wpOp_d rfl (by rfl) (fun K hK => ?_)
  go_simp
  refine (HPt.out _ _ HB.out.ld).mono ?_
  rintro e wb ⟨rfl, hb⟩
  have HC0 := hid (HB.out.to hb)
  clear hb
  obtain ⟨FC, hc0⟩ := HC0.out
  have HC := hid hc0
  clear hc0 HC0
  refine hK _ _ ⟨HC.out.r.2.1, ?_⟩
  clear hK K
  go_simp
  refine wpAnyH_done (by kernel_rfl) ?_ _
  go_simp
  obtain ⟨d00, d1, d2, d3⟩ := HC.out.r.2.1.cells
  have d0 := d00.trans HKd.out
  clear d00
  go_wp2_with (first
    | (have := H5; refine wl_store_rs rfl _ _ rfl (w.heap.size + 1) rfl 0 0 0 (mostW x r.b) rfl H5.out.r.2.1 ?_; intro w7 Hz; have H7 := hid (mt_last H5.out HSt.out.1 HSt.out.2 (by have := HW4.out; omega) (by have := HW4.out; simp; omega) Hz.out); clear Hz)
    | (have := H4; refine wl_store_rs rfl _ _ rfl w4.heap.size rfl 0 0 0 (mostW x r.b) rfl (heap_alloc_last w4 _) ?_; intro w5 Hz; have H5 := hid (H4.out.fresh (Hz.out.2.below ((Below.refl w4.heap.size w4).alloc (Nat.le_refl _) _) (Nat.le_refl _)) (stable_rs _ 0 (mostW x r.b)) Hz.out.1 (lt_of_blk Hz.out.1)); clear Hz d0 d1 d2 d3; have HW4 := hid (And.intro (H4.out.lt (w.heap.size + 1) (by simp)) (H4.out.lt w.heap.size (by simp))); obtain ⟨d00, d1, d2, d3⟩ := H5.out.r.2.2.1.cells; have d0 := d00.trans HKd.out; clear d00; obtain ⟨z0, z1⟩ := H5.out.r.1.cells)
    | (go_at_call 109; refine (HTd.out _ _ HC.out.ld).mono ?_; rintro e w4 ⟨rfl, hb⟩; have H4 := hid (HC.out.keep hb); clear hb d0 d1 d2 d3; obtain ⟨d00, d1, d2, d3⟩ := H4.out.r.2.1.cells; have d0 := d00.trans HKd.out; clear d00))
  refine ret_oneD (s := 4) (ad := ⟨w.heap.size + 1, 0, none⟩) rfl rfl (load_rs _ _ 0 (mostW x r.b) H7.out.1) rfl ?_
  exact ⟨rfl, H7.out.2⟩
set_option maxRecDepth 100000 in
set_option maxHeartbeats 6400000 in
theorem wkeyed_cut {F : List Nat} {w : World} {v : Value} {s : Ls} (h : LmAt F w v s) (r : Rq) (hf : s.its.length ≤ 16) (h1 : r.k = 4) (x : Nat) (hg : getK r.key s.its = some x) (hx : x < 18446744073709551616) (hb0 : r.b < 18446744073709551616) :
    Calls Tryz.prog 70 #[v, .agg #[.int .i64 r.k, .string r.key, .float .f64 r.b, .int .i64 r.id]] w fun e w' => e = .returned (.agg #[.int .i64 0, .float .f64 x]) ∧ LmTo F w w' v { s with its := cutK r.key s.its } := by
  have hst : Stable ([w.heap.size] ++ []) (fun u => OpAt u w.heap.size r ∧ True) := stable_and (stable_op _ r) stable_true
  have hni : w.heap.size + 1 ∉ ([w.heap.size] ++ []) := by simp
  have H0 := hid (mt_start h r)
  obtain ⟨g, rfl⟩ := h.ptr
  have HSt := hid (And.intro hst hni)
  have HF := hid (show s.its.length ≤ 1000 by omega)
  have HAt : Hid (∀ (u : World) (G : List Nat), LmAt G u (.pointer (some ⟨g, 0, none⟩)) s → Calls Tryz.prog 107 #[(.pointer (some ⟨g, 0, none⟩)), .string r.key] u fun e w' => e = .returned (.int .i64 (posK r.key s.its : Int)) ∧ Below u.heap.size u w') := hid (fun u G hu => by have := watT hu HF.out r.key; rw [posZ, if_neg (by rw [hg]; simp)] at this; exact this)
  have HTd : Hid (∀ (u : World) (G : List Nat), LmAt G u (.pointer (some ⟨g, 0, none⟩)) s → Calls Tryz.prog 109 #[(.pointer (some ⟨g, 0, none⟩)), .string r.key] u fun e w' => e = .returned (.agg #[.int .i64 0, .float .f64 x]) ∧ Below u.heap.size u w') := hid (fun u G hu => wtoldT hu HF.out r.key _ hg)
  have HCt : Hid (∀ (u : World) (G : List Nat), LmAt G u (.pointer (some ⟨g, 0, none⟩)) s → Calls Tryz.prog 112 #[(.pointer (some ⟨g, 0, none⟩)), .string r.key] u fun e w' => e = .returned (.tuple #[]) ∧ LmTo G u w' (.pointer (some ⟨g, 0, none⟩)) { s with its := cutK r.key s.its }) := hid (fun u G hu => wcutT hu HF.out r.key)
  have HPs := hid (pos_at hg)
  have hp1 : (posK r.key s.its : Int) < (s.its.length : Int) := by have := (List.getElem?_eq_some_iff.1 (pos_at hg)).1; omega
  have hp0 : (0 : Int) ≤ (posK r.key s.its : Int) := Int.natCast_nonneg _
  have HXB := hid (And.intro hx hb0)
  clear h hst hni
  obtain ⟨d00, d1, d2, d3⟩ := H0.out.r.2.1.cells
  have HKd : Hid (some (Value.int .i64 r.k) = some (.int .i64 4)) := hid (by rw [h1])
  have d0 := d00.trans HKd.out
  clear d00
  clear hf hg h1 hx hb0
  generalize { s with its := cutK r.key s.its } = S2 at *
  generalize posK r.key s.its = p at *
  go_enter Tryz.func70, Tryz.ntmps70
  go_wp2_with (first
    | (have := H6; refine wl_store_rs rfl _ _ rfl (w.heap.size + 1) rfl 0 0 0 x rfl H6.out.r.2.1 ?_; intro w7 Hz; have H7 := hid (mt_last H6.out HSt.out.1 HSt.out.2 (by have := HW4.out; omega) (by have := HW4.out; simp; omega) Hz.out); clear Hz)
    | (go_at_call 112; refine (HCt.out _ _ H5.out.ld).mono ?_; rintro e w6 ⟨rfl, hb⟩; have HC6 := hid (H5.out.to hb); clear hb d0 d1 d2 d3 z0 z1; obtain ⟨F6, h6⟩ := HC6.out; have H6 := hid h6; clear h6 HC6; obtain ⟨d00, d1, d2, d3⟩ := H6.out.r.2.2.1.cells; have d0 := d00.trans HKd.out; clear d00; obtain ⟨z0, z1⟩ := H6.out.r.1.cells)
    | (have := H4; refine wl_store_rs rfl _ _ rfl w4.heap.size rfl 0 0 0 x rfl (heap_alloc_last w4 _) ?_; intro w5 Hz; have H5 := hid (H4.out.fresh (Hz.out.2.below ((Below.refl w4.heap.size w4).alloc (Nat.le_refl _) _) (Nat.le_refl _)) (stable_rs _ 0 x) Hz.out.1 (lt_of_blk Hz.out.1)); clear Hz d0 d1 d2 d3; have HW4 := hid (And.intro (H4.out.lt (w.heap.size + 1) (by simp)) (H4.out.lt w.heap.size (by simp))); obtain ⟨d00, d1, d2, d3⟩ := H5.out.r.2.2.1.cells; have d0 := d00.trans HKd.out; clear d00; obtain ⟨z0, z1⟩ := H5.out.r.1.cells)
    | (go_at_call 109; refine (HTd.out _ _ H1.out.ld).mono ?_; rintro e w4 ⟨rfl, hb⟩; have H4 := hid (H1.out.keep hb); clear hb d0 d1 d2 d3; obtain ⟨d00, d1, d2, d3⟩ := H4.out.r.2.1.cells; have d0 := d00.trans HKd.out; clear d00)
    | (go_at_call 107; refine (HAt.out _ _ H0.out.ld).mono ?_; rintro e w1 ⟨rfl, hb⟩; have H1 := hid (H0.out.keep hb); clear hb d0 d1 d2 d3; obtain ⟨d00, d1, d2, d3⟩ := H1.out.r.2.1.cells; have d0 := d00.trans HKd.out; clear d00; obtain ⟨ai, ci, c4, hkb⟩ := H1.out.ld.c4; obtain ⟨ga, off, rfl, hc1, hc2⟩ := hkb.at _ _ HPs.out; clear hkb)
    | rw [ff_run])
  refine ret_oneD (s := 4) (ad := ⟨w.heap.size + 1, 0, none⟩) rfl rfl (load_rs _ _ 0 x H7.out.1) rfl ?_
  exact ⟨rfl, H7.out.2⟩
set_option maxRecDepth 100000 in
set_option maxHeartbeats 6400000 in
theorem wkeyed_see {F : List Nat} {w : World} {v : Value} {s : Ls} (h : LmAt F w v s) (r : Rq) (hf : s.its.length ≤ 16) (h1 : r.k = 5) (x : Nat) (hg : getK r.key s.its = some x) (hx : x < 18446744073709551616) (hb0 : r.b < 18446744073709551616) :
    Calls Tryz.prog 70 #[v, .agg #[.int .i64 r.k, .string r.key, .float .f64 r.b, .int .i64 r.id]] w fun e w' => e = .returned (.agg #[.int .i64 0, .float .f64 x]) ∧ LmTo F w w' v s := by
  have hst : Stable ([w.heap.size] ++ []) (fun u => OpAt u w.heap.size r ∧ True) := stable_and (stable_op _ r) stable_true
  have hni : w.heap.size + 1 ∉ ([w.heap.size] ++ []) := by simp
  have H0 := hid (mt_start h r)
  obtain ⟨g, rfl⟩ := h.ptr
  have HSt := hid (And.intro hst hni)
  have HF := hid (show s.its.length ≤ 1000 by omega)
  have HAt : Hid (∀ (u : World) (G : List Nat), LmAt G u (.pointer (some ⟨g, 0, none⟩)) s → Calls Tryz.prog 107 #[(.pointer (some ⟨g, 0, none⟩)), .string r.key] u fun e w' => e = .returned (.int .i64 (posK r.key s.its : Int)) ∧ Below u.heap.size u w') := hid (fun u G hu => by have := watT hu HF.out r.key; rw [posZ, if_neg (by rw [hg]; simp)] at this; exact this)
  have HTd : Hid (∀ (u : World) (G : List Nat), LmAt G u (.pointer (some ⟨g, 0, none⟩)) s → Calls Tryz.prog 109 #[(.pointer (some ⟨g, 0, none⟩)), .string r.key] u fun e w' => e = .returned (.agg #[.int .i64 0, .float .f64 x]) ∧ Below u.heap.size u w') := hid (fun u G hu => wtoldT hu HF.out r.key _ hg)
  have HPs := hid (pos_at hg)
  have hp1 : (posK r.key s.its : Int) < (s.its.length : Int) := by have := (List.getElem?_eq_some_iff.1 (pos_at hg)).1; omega
  have hp0 : (0 : Int) ≤ (posK r.key s.its : Int) := Int.natCast_nonneg _
  have HXB := hid (And.intro hx hb0)
  clear h hst hni
  obtain ⟨d00, d1, d2, d3⟩ := H0.out.r.2.1.cells
  have HKd : Hid (some (Value.int .i64 r.k) = some (.int .i64 5)) := hid (by rw [h1])
  have d0 := d00.trans HKd.out
  clear d00
  clear hf hg h1 hx hb0
  generalize posK r.key s.its = p at *
  go_enter Tryz.func70, Tryz.ntmps70
  go_wp2_with (first
    | (have := H5; refine wl_store_rs rfl _ _ rfl (w.heap.size + 1) rfl 0 0 0 x rfl H5.out.r.2.1 ?_; intro w7 Hz; have H7 := hid (mt_last H5.out HSt.out.1 HSt.out.2 (by have := HW4.out; omega) (by have := HW4.out; simp; omega) Hz.out); clear Hz)
    | (have := H4; refine wl_store_rs rfl _ _ rfl w4.heap.size rfl 0 0 0 x rfl (heap_alloc_last w4 _) ?_; intro w5 Hz; have H5 := hid (H4.out.fresh (Hz.out.2.below ((Below.refl w4.heap.size w4).alloc (Nat.le_refl _) _) (Nat.le_refl _)) (stable_rs _ 0 x) Hz.out.1 (lt_of_blk Hz.out.1)); clear Hz d0 d1 d2 d3; have HW4 := hid (And.intro (H4.out.lt (w.heap.size + 1) (by simp)) (H4.out.lt w.heap.size (by simp))); obtain ⟨d00, d1, d2, d3⟩ := H5.out.r.2.2.1.cells; have d0 := d00.trans HKd.out; clear d00; obtain ⟨z0, z1⟩ := H5.out.r.1.cells)
    | (go_at_call 109; refine (HTd.out _ _ H1.out.ld).mono ?_; rintro e w4 ⟨rfl, hb⟩; have H4 := hid (H1.out.keep hb); clear hb d0 d1 d2 d3; obtain ⟨d00, d1, d2, d3⟩ := H4.out.r.2.1.cells; have d0 := d00.trans HKd.out; clear d00)
    | (go_at_call 107; refine (HAt.out _ _ H0.out.ld).mono ?_; rintro e w1 ⟨rfl, hb⟩; have H1 := hid (H0.out.keep hb); clear hb d0 d1 d2 d3; obtain ⟨d00, d1, d2, d3⟩ := H1.out.r.2.1.cells; have d0 := d00.trans HKd.out; clear d00; obtain ⟨ai, ci, c4, hkb⟩ := H1.out.ld.c4; obtain ⟨ga, off, rfl, hc1, hc2⟩ := hkb.at _ _ HPs.out; clear hkb)
    | rw [ff_run])
  refine ret_oneD (s := 4) (ad := ⟨w.heap.size + 1, 0, none⟩) rfl rfl (load_rs _ _ 0 x H7.out.1) rfl ?_
  exact ⟨rfl, H7.out.2⟩
end Go.Proofs.YtecidbdbdnnglaaGreat

/- The document's ledger: moved. -/
namespace Go.Proofs.YtecidbdbdnnglaaGreat
open Go.RowKit

/-- Other members to be lie there. -/
theorem LrA.next {w w1 : World} {g gs gr : Nat} {am an ai : Option Addr} {cm cn ci : Nat} {s : Ls} (h : LrA w g gs gr am an ai cm cn ci s) {ad : Option Addr} {L : List Int} (cap : Nat) (ho : One g w w1) (hw : w1 = w.setCell ⟨g, 2, none⟩ (.slice ad L.length cap)) (hk : IntsIn w ad L) (hfar : ∀ x, ad = some x → (x.block ≠ g ∧ x.block ≠ gs ∧ x.block ≠ gr) ∧ x.block < w.heap.size) :
    LrA w1 g gs gr am ad ai cm cap ci { s with nxt := L } :=
  h.setg ho (by rw [hw]; exact (blk_set h.blk 2 _).trans (by simp)) h.im hk h.it h.ma hfar h.ia rfl
theorem LmAt.next {F : List Nat} {w : World} {g : Nat} {s : Ls} (h : LmAt F w (.pointer (some ⟨g, 0, none⟩)) s) {ad : Option Addr} {L : List Int} (cap : Nat) (hk : IntsIn w ad L) (hfar : ∀ x, ad = some x → x.block ∉ F ∧ x.block < w.heap.size) :
    ∃ F', LmAt F' (w.setCell ⟨g, 2, none⟩ (.slice ad L.length cap)) (.pointer (some ⟨g, 0, none⟩)) { s with nxt := L } ∧ (∀ b, b ∈ F' → b ∈ F ∨ ∃ x, ad = some x ∧ b = x.block) := by
  obtain ⟨g', gs, gr, am, an, ai, cm, cn, ci, hv, rfl, h⟩ := h
  cases hv
  refine ⟨fpR g gs gr am ad ai, (h.next cap (one_cellR w g 2 _) rfl hk (fun x hx => ⟨⟨fun e => (hfar x hx).1 (e ▸ fpR_g.1), fun e => (hfar x hx).1 (e ▸ fpR_g.2.1), fun e => (hfar x hx).1 (e ▸ fpR_g.2.2)⟩, (hfar x hx).2⟩)).at, fun b hb => ?_⟩
  rcases mem_fpR.1 hb with e | e | e | e | e | e
  · exact .inl (mem_fpR.2 (.inl e))
  · exact .inl (mem_fpR.2 (.inr (.inl e)))
  · exact .inl (mem_fpR.2 (.inr (.inr (.inl e))))
  · exact .inl (mem_fpR.2 (.inr (.inr (.inr (.inl e)))))
  · exact .inr e
  · exact .inl (mem_fpR.2 (.inr (.inr (.inr (.inr (.inr e))))))
theorem LmAt.gin {F : List Nat} {w : World} {g : Nat} {s : Ls} (h : LmAt F w (.pointer (some ⟨g, 0, none⟩)) s) : g ∈ F := by
  obtain ⟨g', gs, gr, am, an, ai, cm, cn, ci, hv, rfl, h⟩ := h
  cases hv
  exact fpR_g.1
theorem LmAt.c2 {F : List Nat} {w : World} {g : Nat} {s : Ls} (h : LmAt F w (.pointer (some ⟨g, 0, none⟩)) s) : ∃ an cn, w.cell? ⟨g, 2, none⟩ = some (.slice an s.nxt.length cn) ∧ IntsIn w an s.nxt ∧ w.frozen? ⟨g, 2, none⟩ = false := by
  obtain ⟨g', gs, gr, am, an, ai, cm, cn, ci, hv, _, h⟩ := h
  cases hv
  exact ⟨an, cn, h.c2, h.ix, h.fr 2⟩
/-- A new list, in blocks of its own, becomes the members to be. -/
theorem MtSt.next {F0 : List Nat} {w0 w : World} {L : List Nat} {R : World → Prop} {F : List Nat} {g : Nat} {s : Ls} (h : MtSt F0 w0 w L R F (.pointer (some ⟨g, 0, none⟩)) s) {ad : Option Addr} {zs : List Int} (cap : Nat) (hk : IntsIn w ad zs) (hfar : ∀ x, ad = some x → x.block ∉ F ∧ x.block ∉ L ∧ w0.heap.size ≤ x.block ∧ x.block < w.heap.size) :
    ∃ F', MtSt F0 w0 (w.setCell ⟨g, 2, none⟩ (.slice ad zs.length cap)) L R F' (.pointer (some ⟨g, 0, none⟩)) { s with nxt := zs } := by
  have ho := one_cellR w g 2 (.slice ad zs.length cap)
  obtain ⟨F', h1, h2⟩ := h.ld.next cap hk (fun x hx => ⟨(hfar x hx).1, (hfar x hx).2.2.2⟩)
  have hz : w.heap.size ≤ (w.setCell ⟨g, 2, none⟩ (.slice ad zs.length cap)).heap.size := Nat.le_of_eq ho.size.symm
  refine ⟨F', h1, fun b hb => ?_, one_outR ho h.out (h.sub g h.ld.gin), h.st, fun b hm => Nat.lt_of_lt_of_le (h.lt b hm) hz, h.st _ _ h.r hz (fun b hm => ho.block b (fun e => h.ap b hm (e ▸ h.ld.gin))), fun b hm hF => ?_, h.fr⟩
  · rcases h2 b hb with e | ⟨x, hx, rfl⟩
    · exact h.sub b e
    · exact .inr (hfar x hx).2.2.1
  · rcases h2 b hF with e | ⟨x, hx, rfl⟩
    · exact h.ap b hm e
    · exact (hfar x hx).2.1 hm
set_option maxRecDepth 100000 in
set_option maxHeartbeats 6400000 in
theorem wmoved_join_ok {F : List Nat} {w : World} {v : Value} {s : Ls} (h : LmAt F w v s) (r : Rq) (h1 : r.k = 6) (hl : s.nxt.length ≤ maxLen) (hE : joinE s.nxt r.id = 0) :
    Calls Tryz.prog 69 #[v, .agg #[.int .i64 r.k, .string r.key, .float .f64 r.b, .int .i64 r.id]] w fun e w' => e = .returned (.agg #[.int .i64 0, .float .f64 0]) ∧ LmTo F w w' v { s with nxt := joinR s.nxt r.id } := by
  have hst : Stable ([w.heap.size] ++ []) (fun u => OpAt u w.heap.size r ∧ True) := stable_and (stable_op _ r) stable_true
  have hni : w.heap.size + 1 ∉ ([w.heap.size] ++ []) := by simp
  have H0 := hid (mt_start h r)
  obtain ⟨g, rfl⟩ := h.ptr
  have HSt := hid (And.intro hst hni)
  have HML := hid hl
  have HKd : Hid (some (Value.int .i64 r.k) = some (.int .i64 6)) := hid (by rw [h1])
  have HE := hid hE
  clear h hst hni h1 hl hE
  go_enter Tryz.func69, Tryz.ntmps69
  go_wp2
  obtain ⟨W, eW⟩ : ∃ W, W = (w.alloc (.cells #[.int .i64 r.k, .string r.key, .float .f64 r.b, .int .i64 r.id] 54)).alloc (.cells #[.int .i64 0, .float .f64 0] 50) := ⟨_, rfl⟩
  rw [← eW] at H0 ⊢
  clear eW
  have H1 := hid H0.out.drew
  obtain ⟨an, cn, e1, e2, e3⟩ := H1.out.ld.c2
  have H2 := hid (And.intro H1.out (And.intro e1 e2))
  clear e1 e2 e3 H1
  refine wp_region_held (S := fun ww => OpAt ww w.heap.size r ∧ ww.cell? ⟨g, 2, none⟩ = some (.slice an s.nxt.length cn)) (by kernel_rfl) ?_
  try (change wpAnyH _ _ _ _ _ _ _ _ (World.drew _))
  refine wpAnyH_take (i := 0) (v := ?v1) rfl (by kernel_rfl) (by kernel_rfl) (by kernel_rfl) (fun _ _ _ h => h) (Or.inl ⟨by rfl, ?hy1⟩) ⟨H2.out.1.r.2.1, H2.out.2.1⟩ ?rest1
  case hy1 => (intro ww _; go_simp; try with_reducible rfl)
  go_simp
  refine wpAnyH_take (i := 1) (v := ?v2) rfl (by kernel_rfl) (by kernel_rfl) (by kernel_rfl) (fun _ _ _ h => h) (Or.inl ⟨by rfl, ?hy2⟩) ⟨H2.out.1.r.2.1, H2.out.2.1⟩ ?rest2
  case hy2 => (intro ww _; go_simp; try with_reducible rfl)
  go_simp
  refine wpAnyH_take (i := 2) (v := ?v3) rfl (by kernel_rfl) (by kernel_rfl) (by kernel_rfl) (fun _ _ _ h => h) (Or.inl ⟨by rfl, ?hy3⟩) ⟨H2.out.1.r.2.1, H2.out.2.1⟩ ?rest3
  case hy3 => (intro ww _; go_simp; try with_reducible rfl)
  go_simp
  refine wpAnyH_take (i := 3) (v := ?v4) rfl (by kernel_rfl) (by kernel_rfl) (by kernel_rfl) (fun _ _ _ h => h) (Or.inl ⟨by rfl, ?hy4⟩) ⟨H2.out.1.r.2.1, H2.out.2.1⟩ ?rest4
  case hy4 => (intro ww hS; obtain ⟨⟨y0, y1, y2, y3⟩, y4⟩ := And.intro (OpAt.cells hS.1) hS.2; go_simp; try with_reducible rfl)
  go_simp
  refine wpAnyH_take (i := 4) (v := ?v5) rfl (by kernel_rfl) (by kernel_rfl) (by kernel_rfl) (fun _ _ _ h => h) (Or.inl ⟨by rfl, ?hy5⟩) ⟨H2.out.1.r.2.1, H2.out.2.1⟩ ?rest5
  case hy5 => (intro ww _; go_simp; try with_reducible rfl)
  go_simp
  refine wpAnyH_take (i := 5) (v := ?v6) rfl (by kernel_rfl) (by kernel_rfl) (by kernel_rfl) (fun _ _ _ h => h) (Or.inl ⟨by rfl, ?hy6⟩) ⟨H2.out.1.r.2.1, H2.out.2.1⟩ ?rest6
  case hy6 => (intro ww hS; obtain ⟨⟨y0, y1, y2, y3⟩, y4⟩ := And.intro (OpAt.cells hS.1) hS.2; go_simp; try with_reducible rfl)
  go_simp
  refine wpAnyH_all (rs := [6]) (by kernel_rfl) (by simp) ?_
  intro i hi
  obtain rfl := List.mem_singleton.1 hi
  clear hi
  refine wpOp_d rfl (by rfl) (fun K hK => ?_)
  go_simp
  refine (vjoin_any an _ cn s.nxt rfl HML.out r.id _ H2.out.2.2).mono ?_
  rintro e w4 ⟨v4, rfl, hown⟩
  obtain ⟨a4, c4, rfl, hin, hfa⟩ := hown.slice
  have H4 := hid (And.intro (H2.out.1.keep hown.bel) (And.intro ((hown.bel.cell (p := ⟨g, 2, none⟩) (H2.out.1.ld.lt _ H2.out.1.ld.gin)).trans H2.out.2.1) (And.intro (H2.out.2.2.keep hown.bel (Nat.le_refl _)) (And.intro hin (And.intro hfa (H2.out.1.ld.lt))))))
  clear hown hin hfa
  refine hK _ _ ⟨⟨H4.out.1.r.2.1, H4.out.2.1⟩, ?_⟩
  clear hK K
  go_simp
  refine wpAnyH_take (i := 7) (v := ?v7) rfl (by kernel_rfl) (by kernel_rfl) (by kernel_rfl) (fun _ _ _ h => h) (Or.inl ⟨by rfl, ?hy7⟩) ⟨H4.out.1.r.2.1, H4.out.2.1⟩ ?rest7
  case hy7 => (intro ww _; go_simp; try with_reducible rfl)
  go_simp
  refine wpAnyH_take (i := 8) (v := ?v8) rfl (by kernel_rfl) (by kernel_rfl) (by kernel_rfl) (fun _ _ _ h => h) (Or.inl ⟨by rfl, ?hy8⟩) ⟨H4.out.1.r.2.1, H4.out.2.1⟩ ?rest8
  case hy8 => (intro ww _; go_simp; try with_reducible rfl)
  go_simp
  refine wpAnyH_take (i := 9) (v := ?v9) rfl (by kernel_rfl) (by kernel_rfl) (by kernel_rfl) (fun _ _ _ h => h) (Or.inl ⟨by rfl, ?hy9⟩) ⟨H4.out.1.r.2.1, H4.out.2.1⟩ ?rest9
  case hy9 => (intro ww _; go_simp; try with_reducible rfl)
  go_simp
  refine wpAnyH_take (i := 10) (v := ?v10) rfl (by kernel_rfl) (by kernel_rfl) (by kernel_rfl) (fun _ _ _ h => h) (Or.inl ⟨by rfl, ?hy10⟩) ⟨H4.out.1.r.2.1, H4.out.2.1⟩ ?rest10
  case hy10 => (intro ww _; go_simp; try with_reducible rfl)
  go_simp
  refine wpAnyH_take (i := 11) (v := ?v11) rfl (by kernel_rfl) (by kernel_rfl) (by kernel_rfl) (fun _ _ _ h => h) (Or.inl ⟨by rfl, ?hy11⟩) ⟨H4.out.1.r.2.1, H4.out.2.1⟩ ?rest11
  case hy11 => (intro ww _; go_simp; try with_reducible rfl)
  go_simp
  refine wpAnyH_done (by kernel_rfl) ?_ _
  go_simp
  rw [HE.out]
  obtain ⟨d00, d1, d2, d3⟩ := H4.out.1.r.2.1.cells
  have d0 := d00.trans HKd.out
  clear d00
  obtain ⟨an2, cn2, c2, _, f2⟩ := H4.out.1.ld.c2
  have HN := hid (H4.out.1.next c4 H4.out.2.2.2.1 (fun x hx => by
    obtain ⟨p1, p2⟩ := H4.out.2.2.2.2.1 x hx
    refine ⟨fun hF => ?_, fun hL => ?_, Nat.le_trans H2.out.1.out.size p1, p2⟩
    · have := H4.out.2.2.2.2.2 _ hF
      omega
    · have := H2.out.1.lt _ hL
      omega))
  go_wp2_with (have := HN; obtain ⟨F8, h8⟩ := HN.out; refine wl_store_rs rfl _ _ rfl (w.heap.size + 1) rfl 0 0 0 0 rfl h8.r.1 ?_; intro w9 Hz; have H9 := hid (h8.put HSt.out.1 HSt.out.2 Hz.out); clear Hz h8 HN)
  refine ret_oneD (s := 4) (ad := ⟨w.heap.size + 1, 0, none⟩) rfl rfl (load_rs _ _ 0 0 H9.out.r.1) rfl ?_
  exact ⟨rfl, H9.out.fin⟩
set_option maxRecDepth 100000 in
set_option maxHeartbeats 6400000 in
theorem wmoved_join_a {F : List Nat} {w : World} {v : Value} {s : Ls} (h : LmAt F w v s) (r : Rq) (h1 : r.k = 6) (hl : s.nxt.length ≤ maxLen) (hE : joinE s.nxt r.id = 7) :
    Calls Tryz.prog 69 #[v, .agg #[.int .i64 r.k, .string r.key, .float .f64 r.b, .int .i64 r.id]] w fun e w' => e = .returned (.agg #[.int .i64 3, .float .f64 0]) ∧ LmTo F w w' v s := by
  have hst : Stable ([w.heap.size] ++ []) (fun u => OpAt u w.heap.size r ∧ True) := stable_and (stable_op _ r) stable_true
  have hni : w.heap.size + 1 ∉ ([w.heap.size] ++ []) := by simp
  have H0 := hid (mt_start h r)
  obtain ⟨g, rfl⟩ := h.ptr
  have HSt := hid (And.intro hst hni)
  have HML := hid hl
  have HKd : Hid (some (Value.int .i64 r.k) = some (.int .i64 6)) := hid (by rw [h1])
  have HE := hid hE
  clear h hst hni h1 hl hE
  go_enter Tryz.func69, Tryz.ntmps69
  go_wp2
  obtain ⟨W, eW⟩ : ∃ W, W = (w.alloc (.cells #[.int .i64 r.k, .string r.key, .float .f64 r.b, .int .i64 r.id] 54)).alloc (.cells #[.int .i64 0, .float .f64 0] 50) := ⟨_, rfl⟩
  rw [← eW] at H0 ⊢
  clear eW
  have H1 := hid H0.out.drew
  obtain ⟨an, cn, e1, e2, e3⟩ := H1.out.ld.c2
  have H2 := hid (And.intro H1.out (And.intro e1 e2))
  clear e1 e2 e3 H1
  refine wp_region_held (S := fun ww => OpAt ww w.heap.size r ∧ ww.cell? ⟨g, 2, none⟩ = some (.slice an s.nxt.length cn)) (by kernel_rfl) ?_
  try (change wpAnyH _ _ _ _ _ _ _ _ (World.drew _))
  refine wpAnyH_take (i := 0) (v := ?v1) rfl (by kernel_rfl) (by kernel_rfl) (by kernel_rfl) (fun _ _ _ h => h) (Or.inl ⟨by rfl, ?hy1⟩) ⟨H2.out.1.r.2.1, H2.out.2.1⟩ ?rest1
  case hy1 => (intro ww _; go_simp; try with_reducible rfl)
  go_simp
  refine wpAnyH_take (i := 1) (v := ?v2) rfl (by kernel_rfl) (by kernel_rfl) (by kernel_rfl) (fun _ _ _ h => h) (Or.inl ⟨by rfl, ?hy2⟩) ⟨H2.out.1.r.2.1, H2.out.2.1⟩ ?rest2
  case hy2 => (intro ww _; go_simp; try with_reducible rfl)
  go_simp
  refine wpAnyH_take (i := 2) (v := ?v3) rfl (by kernel_rfl) (by kernel_rfl) (by kernel_rfl) (fun _ _ _ h => h) (Or.inl ⟨by rfl, ?hy3⟩) ⟨H2.out.1.r.2.1, H2.out.2.1⟩ ?rest3
  case hy3 => (intro ww _; go_simp; try with_reducible rfl)
  go_simp
  refine wpAnyH_take (i := 3) (v := ?v4) rfl (by kernel_rfl) (by kernel_rfl) (by kernel_rfl) (fun _ _ _ h => h) (Or.inl ⟨by rfl, ?hy4⟩) ⟨H2.out.1.r.2.1, H2.out.2.1⟩ ?rest4
  case hy4 => (intro ww hS; obtain ⟨⟨y0, y1, y2, y3⟩, y4⟩ := And.intro (OpAt.cells hS.1) hS.2; go_simp; try with_reducible rfl)
  go_simp
  refine wpAnyH_take (i := 4) (v := ?v5) rfl (by kernel_rfl) (by kernel_rfl) (by kernel_rfl) (fun _ _ _ h => h) (Or.inl ⟨by rfl, ?hy5⟩) ⟨H2.out.1.r.2.1, H2.out.2.1⟩ ?rest5
  case hy5 => (intro ww _; go_simp; try with_reducible rfl)
  go_simp
  refine wpAnyH_take (i := 5) (v := ?v6) rfl (by kernel_rfl) (by kernel_rfl) (by kernel_rfl) (fun _ _ _ h => h) (Or.inl ⟨by rfl, ?hy6⟩) ⟨H2.out.1.r.2.1, H2.out.2.1⟩ ?rest6
  case hy6 => (intro ww hS; obtain ⟨⟨y0, y1, y2, y3⟩, y4⟩ := And.intro (OpAt.cells hS.1) hS.2; go_simp; try with_reducible rfl)
  go_simp
  refine wpAnyH_all (rs := [6]) (by kernel_rfl) (by simp) ?_
  intro i hi
  obtain rfl := List.mem_singleton.1 hi
  clear hi
  refine wpOp_d rfl (by rfl) (fun K hK => ?_)
  go_simp
  refine (vjoin_any an _ cn s.nxt rfl HML.out r.id _ H2.out.2.2).mono ?_
  rintro e w4 ⟨v4, rfl, hown⟩
  obtain ⟨a4, c4, rfl, hin, hfa⟩ := hown.slice
  have H4 := hid (And.intro (H2.out.1.keep hown.bel) (And.intro ((hown.bel.cell (p := ⟨g, 2, none⟩) (H2.out.1.ld.lt _ H2.out.1.ld.gin)).trans H2.out.2.1) (And.intro (H2.out.2.2.keep hown.bel (Nat.le_refl _)) (And.intro hin (And.intro hfa (H2.out.1.ld.lt))))))
  clear hown hin hfa
  refine hK _ _ ⟨⟨H4.out.1.r.2.1, H4.out.2.1⟩, ?_⟩
  clear hK K
  go_simp
  refine wpAnyH_take (i := 7) (v := ?v7) rfl (by kernel_rfl) (by kernel_rfl) (by kernel_rfl) (fun _ _ _ h => h) (Or.inl ⟨by rfl, ?hy7⟩) ⟨H4.out.1.r.2.1, H4.out.2.1⟩ ?rest7
  case hy7 => (intro ww _; go_simp; try with_reducible rfl)
  go_simp
  refine wpAnyH_take (i := 8) (v := ?v8) rfl (by kernel_rfl) (by kernel_rfl) (by kernel_rfl) (fun _ _ _ h => h) (Or.inl ⟨by rfl, ?hy8⟩) ⟨H4.out.1.r.2.1, H4.out.2.1⟩ ?rest8
  case hy8 => (intro ww _; go_simp; try with_reducible rfl)
  go_simp
  refine wpAnyH_take (i := 9) (v := ?v9) rfl (by kernel_rfl) (by kernel_rfl) (by kernel_rfl) (fun _ _ _ h => h) (Or.inl ⟨by rfl, ?hy9⟩) ⟨H4.out.1.r.2.1, H4.out.2.1⟩ ?rest9
  case hy9 => (intro ww _; go_simp; try with_reducible rfl)
  go_simp
  refine wpAnyH_take (i := 10) (v := ?v10) rfl (by kernel_rfl) (by kernel_rfl) (by kernel_rfl) (fun _ _ _ h => h) (Or.inl ⟨by rfl, ?hy10⟩) ⟨H4.out.1.r.2.1, H4.out.2.1⟩ ?rest10
  case hy10 => (intro ww _; go_simp; try with_reducible rfl)
  go_simp
  refine wpAnyH_take (i := 11) (v := ?v11) rfl (by kernel_rfl) (by kernel_rfl) (by kernel_rfl) (fun _ _ _ h => h) (Or.inl ⟨by rfl, ?hy11⟩) ⟨H4.out.1.r.2.1, H4.out.2.1⟩ ?rest11
  case hy11 => (intro ww _; go_simp; try with_reducible rfl)
  go_simp
  refine wpAnyH_done (by kernel_rfl) ?_ _
  go_simp
  rw [HE.out]
  obtain ⟨d00, d1, d2, d3⟩ := H4.out.1.r.2.1.cells
  have d0 := d00.trans HKd.out
  clear d00
  go_wp2_with (refine wl_store_rs rfl _ _ rfl (w.heap.size + 1) rfl 0 3 0 0 rfl H4.out.1.r.1 ?_; intro w9 Hz; have H9 := hid (H4.out.1.put HSt.out.1 HSt.out.2 Hz.out); clear Hz)
  refine ret_oneD (s := 4) (ad := ⟨w.heap.size + 1, 0, none⟩) rfl rfl (load_rs _ _ 3 0 H9.out.r.1) rfl ?_
  exact ⟨rfl, H9.out.fin⟩
set_option maxRecDepth 100000 in
set_option maxHeartbeats 6400000 in
theorem wmoved_join_b {F : List Nat} {w : World} {v : Value} {s : Ls} (h : LmAt F w v s) (r : Rq) (h1 : r.k = 6) (hl : s.nxt.length ≤ maxLen) (hE : joinE s.nxt r.id = 10) :
    Calls Tryz.prog 69 #[v, .agg #[.int .i64 r.k, .string r.key, .float .f64 r.b, .int .i64 r.id]] w fun e w' => e = .returned (.agg #[.int .i64 6, .float .f64 0]) ∧ LmTo F w w' v s := by
  have hst : Stable ([w.heap.size] ++ []) (fun u => OpAt u w.heap.size r ∧ True) := stable_and (stable_op _ r) stable_true
  have hni : w.heap.size + 1 ∉ ([w.heap.size] ++ []) := by simp
  have H0 := hid (mt_start h r)
  obtain ⟨g, rfl⟩ := h.ptr
  have HSt := hid (And.intro hst hni)
  have HML := hid hl
  have HKd : Hid (some (Value.int .i64 r.k) = some (.int .i64 6)) := hid (by rw [h1])
  have HE := hid hE
  clear h hst hni h1 hl hE
  go_enter Tryz.func69, Tryz.ntmps69
  go_wp2
  obtain ⟨W, eW⟩ : ∃ W, W = (w.alloc (.cells #[.int .i64 r.k, .string r.key, .float .f64 r.b, .int .i64 r.id] 54)).alloc (.cells #[.int .i64 0, .float .f64 0] 50) := ⟨_, rfl⟩
  rw [← eW] at H0 ⊢
  clear eW
  have H1 := hid H0.out.drew
  obtain ⟨an, cn, e1, e2, e3⟩ := H1.out.ld.c2
  have H2 := hid (And.intro H1.out (And.intro e1 e2))
  clear e1 e2 e3 H1
  refine wp_region_held (S := fun ww => OpAt ww w.heap.size r ∧ ww.cell? ⟨g, 2, none⟩ = some (.slice an s.nxt.length cn)) (by kernel_rfl) ?_
  try (change wpAnyH _ _ _ _ _ _ _ _ (World.drew _))
  refine wpAnyH_take (i := 0) (v := ?v1) rfl (by kernel_rfl) (by kernel_rfl) (by kernel_rfl) (fun _ _ _ h => h) (Or.inl ⟨by rfl, ?hy1⟩) ⟨H2.out.1.r.2.1, H2.out.2.1⟩ ?rest1
  case hy1 => (intro ww _; go_simp; try with_reducible rfl)
  go_simp
  refine wpAnyH_take (i := 1) (v := ?v2) rfl (by kernel_rfl) (by kernel_rfl) (by kernel_rfl) (fun _ _ _ h => h) (Or.inl ⟨by rfl, ?hy2⟩) ⟨H2.out.1.r.2.1, H2.out.2.1⟩ ?rest2
  case hy2 => (intro ww _; go_simp; try with_reducible rfl)
  go_simp
  refine wpAnyH_take (i := 2) (v := ?v3) rfl (by kernel_rfl) (by kernel_rfl) (by kernel_rfl) (fun _ _ _ h => h) (Or.inl ⟨by rfl, ?hy3⟩) ⟨H2.out.1.r.2.1, H2.out.2.1⟩ ?rest3
  case hy3 => (intro ww _; go_simp; try with_reducible rfl)
  go_simp
  refine wpAnyH_take (i := 3) (v := ?v4) rfl (by kernel_rfl) (by kernel_rfl) (by kernel_rfl) (fun _ _ _ h => h) (Or.inl ⟨by rfl, ?hy4⟩) ⟨H2.out.1.r.2.1, H2.out.2.1⟩ ?rest4
  case hy4 => (intro ww hS; obtain ⟨⟨y0, y1, y2, y3⟩, y4⟩ := And.intro (OpAt.cells hS.1) hS.2; go_simp; try with_reducible rfl)
  go_simp
  refine wpAnyH_take (i := 4) (v := ?v5) rfl (by kernel_rfl) (by kernel_rfl) (by kernel_rfl) (fun _ _ _ h => h) (Or.inl ⟨by rfl, ?hy5⟩) ⟨H2.out.1.r.2.1, H2.out.2.1⟩ ?rest5
  case hy5 => (intro ww _; go_simp; try with_reducible rfl)
  go_simp
  refine wpAnyH_take (i := 5) (v := ?v6) rfl (by kernel_rfl) (by kernel_rfl) (by kernel_rfl) (fun _ _ _ h => h) (Or.inl ⟨by rfl, ?hy6⟩) ⟨H2.out.1.r.2.1, H2.out.2.1⟩ ?rest6
  case hy6 => (intro ww hS; obtain ⟨⟨y0, y1, y2, y3⟩, y4⟩ := And.intro (OpAt.cells hS.1) hS.2; go_simp; try with_reducible rfl)
  go_simp
  refine wpAnyH_all (rs := [6]) (by kernel_rfl) (by simp) ?_
  intro i hi
  obtain rfl := List.mem_singleton.1 hi
  clear hi
  refine wpOp_d rfl (by rfl) (fun K hK => ?_)
  go_simp
  refine (vjoin_any an _ cn s.nxt rfl HML.out r.id _ H2.out.2.2).mono ?_
  rintro e w4 ⟨v4, rfl, hown⟩
  obtain ⟨a4, c4, rfl, hin, hfa⟩ := hown.slice
  have H4 := hid (And.intro (H2.out.1.keep hown.bel) (And.intro ((hown.bel.cell (p := ⟨g, 2, none⟩) (H2.out.1.ld.lt _ H2.out.1.ld.gin)).trans H2.out.2.1) (And.intro (H2.out.2.2.keep hown.bel (Nat.le_refl _)) (And.intro hin (And.intro hfa (H2.out.1.ld.lt))))))
  clear hown hin hfa
  refine hK _ _ ⟨⟨H4.out.1.r.2.1, H4.out.2.1⟩, ?_⟩
  clear hK K
  go_simp
  refine wpAnyH_take (i := 7) (v := ?v7) rfl (by kernel_rfl) (by kernel_rfl) (by kernel_rfl) (fun _ _ _ h => h) (Or.inl ⟨by rfl, ?hy7⟩) ⟨H4.out.1.r.2.1, H4.out.2.1⟩ ?rest7
  case hy7 => (intro ww _; go_simp; try with_reducible rfl)
  go_simp
  refine wpAnyH_take (i := 8) (v := ?v8) rfl (by kernel_rfl) (by kernel_rfl) (by kernel_rfl) (fun _ _ _ h => h) (Or.inl ⟨by rfl, ?hy8⟩) ⟨H4.out.1.r.2.1, H4.out.2.1⟩ ?rest8
  case hy8 => (intro ww _; go_simp; try with_reducible rfl)
  go_simp
  refine wpAnyH_take (i := 9) (v := ?v9) rfl (by kernel_rfl) (by kernel_rfl) (by kernel_rfl) (fun _ _ _ h => h) (Or.inl ⟨by rfl, ?hy9⟩) ⟨H4.out.1.r.2.1, H4.out.2.1⟩ ?rest9
  case hy9 => (intro ww _; go_simp; try with_reducible rfl)
  go_simp
  refine wpAnyH_take (i := 10) (v := ?v10) rfl (by kernel_rfl) (by kernel_rfl) (by kernel_rfl) (fun _ _ _ h => h) (Or.inl ⟨by rfl, ?hy10⟩) ⟨H4.out.1.r.2.1, H4.out.2.1⟩ ?rest10
  case hy10 => (intro ww _; go_simp; try with_reducible rfl)
  go_simp
  refine wpAnyH_take (i := 11) (v := ?v11) rfl (by kernel_rfl) (by kernel_rfl) (by kernel_rfl) (fun _ _ _ h => h) (Or.inl ⟨by rfl, ?hy11⟩) ⟨H4.out.1.r.2.1, H4.out.2.1⟩ ?rest11
  case hy11 => (intro ww _; go_simp; try with_reducible rfl)
  go_simp
  refine wpAnyH_done (by kernel_rfl) ?_ _
  go_simp
  rw [HE.out]
  obtain ⟨d00, d1, d2, d3⟩ := H4.out.1.r.2.1.cells
  have d0 := d00.trans HKd.out
  clear d00
  go_wp2_with (refine wl_store_rs rfl _ _ rfl (w.heap.size + 1) rfl 0 6 0 0 rfl H4.out.1.r.1 ?_; intro w9 Hz; have H9 := hid (H4.out.1.put HSt.out.1 HSt.out.2 Hz.out); clear Hz)
  refine ret_oneD (s := 4) (ad := ⟨w.heap.size + 1, 0, none⟩) rfl rfl (load_rs _ _ 6 0 H9.out.r.1) rfl ?_
  exact ⟨rfl, H9.out.fin⟩
set_option maxRecDepth 100000 in
set_option maxHeartbeats 6400000 in
theorem wmoved_leave_ok {F : List Nat} {w : World} {v : Value} {s : Ls} (h : LmAt F w v s) (r : Rq) (h1 : r.k = 7) (hl : s.nxt.length ≤ maxLen) (hE : leaveE s.nxt r.id = 0) :
    Calls Tryz.prog 69 #[v, .agg #[.int .i64 r.k, .string r.key, .float .f64 r.b, .int .i64 r.id]] w fun e w' => e = .returned (.agg #[.int .i64 0, .float .f64 0]) ∧ LmTo F w w' v { s with nxt := leaveR s.nxt r.id } := by
  have hst : Stable ([w.heap.size] ++ []) (fun u => OpAt u w.heap.size r ∧ True) := stable_and (stable_op _ r) stable_true
  have hni : w.heap.size + 1 ∉ ([w.heap.size] ++ []) := by simp
  have H0 := hid (mt_start h r)
  obtain ⟨g, rfl⟩ := h.ptr
  have HSt := hid (And.intro hst hni)
  have HML := hid hl
  have HKd : Hid (some (Value.int .i64 r.k) = some (.int .i64 7)) := hid (by rw [h1])
  have HE := hid hE
  clear h hst hni h1 hl hE
  go_enter Tryz.func69, Tryz.ntmps69
  go_wp2
  obtain ⟨W, eW⟩ : ∃ W, W = (w.alloc (.cells #[.int .i64 r.k, .string r.key, .float .f64 r.b, .int .i64 r.id] 54)).alloc (.cells #[.int .i64 0, .float .f64 0] 50) := ⟨_, rfl⟩
  rw [← eW] at H0 ⊢
  clear eW
  have H1 := hid H0.out.drew
  obtain ⟨an, cn, e1, e2, e3⟩ := H1.out.ld.c2
  have H2 := hid (And.intro H1.out (And.intro e1 e2))
  clear e1 e2 e3 H1
  refine wp_region_held (S := fun ww => OpAt ww w.heap.size r ∧ ww.cell? ⟨g, 2, none⟩ = some (.slice an s.nxt.length cn)) (by kernel_rfl) ?_
  try (change wpAnyH _ _ _ _ _ _ _ _ (World.drew _))
  refine wpAnyH_take (i := 0) (v := ?v1) rfl (by kernel_rfl) (by kernel_rfl) (by kernel_rfl) (fun _ _ _ h => h) (Or.inl ⟨by rfl, ?hy1⟩) ⟨H2.out.1.r.2.1, H2.out.2.1⟩ ?rest1
  case hy1 => (intro ww _; go_simp; try with_reducible rfl)
  go_simp
  refine wpAnyH_take (i := 1) (v := ?v2) rfl (by kernel_rfl) (by kernel_rfl) (by kernel_rfl) (fun _ _ _ h => h) (Or.inl ⟨by rfl, ?hy2⟩) ⟨H2.out.1.r.2.1, H2.out.2.1⟩ ?rest2
  case hy2 => (intro ww _; go_simp; try with_reducible rfl)
  go_simp
  refine wpAnyH_take (i := 2) (v := ?v3) rfl (by kernel_rfl) (by kernel_rfl) (by kernel_rfl) (fun _ _ _ h => h) (Or.inl ⟨by rfl, ?hy3⟩) ⟨H2.out.1.r.2.1, H2.out.2.1⟩ ?rest3
  case hy3 => (intro ww _; go_simp; try with_reducible rfl)
  go_simp
  refine wpAnyH_take (i := 3) (v := ?v4) rfl (by kernel_rfl) (by kernel_rfl) (by kernel_rfl) (fun _ _ _ h => h) (Or.inl ⟨by rfl, ?hy4⟩) ⟨H2.out.1.r.2.1, H2.out.2.1⟩ ?rest4
  case hy4 => (intro ww hS; obtain ⟨⟨y0, y1, y2, y3⟩, y4⟩ := And.intro (OpAt.cells hS.1) hS.2; go_simp; try with_reducible rfl)
  go_simp
  refine wpAnyH_take (i := 4) (v := ?v5) rfl (by kernel_rfl) (by kernel_rfl) (by kernel_rfl) (fun _ _ _ h => h) (Or.inl ⟨by rfl, ?hy5⟩) ⟨H2.out.1.r.2.1, H2.out.2.1⟩ ?rest5
  case hy5 => (intro ww _; go_simp; try with_reducible rfl)
  go_simp
  refine wpAnyH_take (i := 5) (v := ?v6) rfl (by kernel_rfl) (by kernel_rfl) (by kernel_rfl) (fun _ _ _ h => h) (Or.inl ⟨by rfl, ?hy6⟩) ⟨H2.out.1.r.2.1, H2.out.2.1⟩ ?rest6
  case hy6 => (intro ww hS; obtain ⟨⟨y0, y1, y2, y3⟩, y4⟩ := And.intro (OpAt.cells hS.1) hS.2; go_simp; try with_reducible rfl)
  go_simp
  refine wpAnyH_all (rs := [6]) (by kernel_rfl) (by simp) ?_
  intro i hi
  obtain rfl := List.mem_singleton.1 hi
  clear hi
  refine wpOp_d rfl (by rfl) (fun K hK => ?_)
  go_simp
  refine (vjoin_any an _ cn s.nxt rfl HML.out r.id _ H2.out.2.2).mono ?_
  rintro e w4 ⟨v4, rfl, hown⟩
  obtain ⟨a4, c4, rfl, hin, hfa⟩ := hown.slice
  have H4 := hid (And.intro (H2.out.1.keep hown.bel) (And.intro ((hown.bel.cell (p := ⟨g, 2, none⟩) (H2.out.1.ld.lt _ H2.out.1.ld.gin)).trans H2.out.2.1) (And.intro (H2.out.2.2.keep hown.bel (Nat.le_refl _)) (And.intro hin (And.intro hfa (H2.out.1.ld.lt))))))
  clear hown hin hfa
  refine hK _ _ ⟨⟨H4.out.1.r.2.1, H4.out.2.1⟩, ?_⟩
  clear hK K
  go_simp
  refine wpAnyH_take (i := 7) (v := ?v7) rfl (by kernel_rfl) (by kernel_rfl) (by kernel_rfl) (fun _ _ _ h => h) (Or.inl ⟨by rfl, ?hy7⟩) ⟨H4.out.1.r.2.1, H4.out.2.1⟩ ?rest7
  case hy7 => (intro ww _; go_simp; try with_reducible rfl)
  go_simp
  refine wpAnyH_take (i := 8) (v := ?v8) rfl (by kernel_rfl) (by kernel_rfl) (by kernel_rfl) (fun _ _ _ h => h) (Or.inl ⟨by rfl, ?hy8⟩) ⟨H4.out.1.r.2.1, H4.out.2.1⟩ ?rest8
  case hy8 => (intro ww _; go_simp; try with_reducible rfl)
  go_simp
  refine wpAnyH_take (i := 9) (v := ?v9) rfl (by kernel_rfl) (by kernel_rfl) (by kernel_rfl) (fun _ _ _ h => h) (Or.inl ⟨by rfl, ?hy9⟩) ⟨H4.out.1.r.2.1, H4.out.2.1⟩ ?rest9
  case hy9 => (intro ww _; go_simp; try with_reducible rfl)
  go_simp
  refine wpAnyH_take (i := 10) (v := ?v10) rfl (by kernel_rfl) (by kernel_rfl) (by kernel_rfl) (fun _ _ _ h => h) (Or.inl ⟨by rfl, ?hy10⟩) ⟨H4.out.1.r.2.1, H4.out.2.1⟩ ?rest10
  case hy10 => (intro ww _; go_simp; try with_reducible rfl)
  go_simp
  refine wpAnyH_take (i := 11) (v := ?v11) rfl (by kernel_rfl) (by kernel_rfl) (by kernel_rfl) (fun _ _ _ h => h) (Or.inl ⟨by rfl, ?hy11⟩) ⟨H4.out.1.r.2.1, H4.out.2.1⟩ ?rest11
  case hy11 => (intro ww _; go_simp; try with_reducible rfl)
  go_simp
  refine wpAnyH_done (by kernel_rfl) ?_ _
  go_simp
  obtain ⟨d00, d1, d2, d3⟩ := H4.out.1.r.2.1.cells
  have d0 := d00.trans HKd.out
  clear d00
  go_wp2
  have H5 := hid (And.intro H4.out.1.drew (And.intro (show w4.drew.cell? ⟨g, 2, none⟩ = some (.slice an s.nxt.length cn) from H4.out.2.1) (H4.out.2.2.1.keep (Below.refl _ _).drew (Nat.le_refl _))))
  clear d0 d1 d2 d3
  refine wp_region_held (S := fun ww => OpAt ww w.heap.size r ∧ ww.cell? ⟨g, 2, none⟩ = some (.slice an s.nxt.length cn)) (by kernel_rfl) ?_
  try (change wpAnyH _ _ _ _ _ _ _ _ (World.drew _))
  refine wpAnyH_take (i := 0) (v := ?v12) rfl (by kernel_rfl) (by kernel_rfl) (by kernel_rfl) (fun _ _ _ h => h) (Or.inl ⟨by rfl, ?hy12⟩) ⟨H5.out.1.r.2.1, H5.out.2.1⟩ ?rest12
  case hy12 => (intro ww _; go_simp; try with_reducible rfl)
  go_simp
  refine wpAnyH_take (i := 1) (v := ?v13) rfl (by kernel_rfl) (by kernel_rfl) (by kernel_rfl) (fun _ _ _ h => h) (Or.inl ⟨by rfl, ?hy13⟩) ⟨H5.out.1.r.2.1, H5.out.2.1⟩ ?rest13
  case hy13 => (intro ww _; go_simp; try with_reducible rfl)
  go_simp
  refine wpAnyH_take (i := 2) (v := ?v14) rfl (by kernel_rfl) (by kernel_rfl) (by kernel_rfl) (fun _ _ _ h => h) (Or.inl ⟨by rfl, ?hy14⟩) ⟨H5.out.1.r.2.1, H5.out.2.1⟩ ?rest14
  case hy14 => (intro ww _; go_simp; try with_reducible rfl)
  go_simp
  refine wpAnyH_take (i := 3) (v := ?v15) rfl (by kernel_rfl) (by kernel_rfl) (by kernel_rfl) (fun _ _ _ h => h) (Or.inl ⟨by rfl, ?hy15⟩) ⟨H5.out.1.r.2.1, H5.out.2.1⟩ ?rest15
  case hy15 => (intro ww hS; obtain ⟨⟨y0, y1, y2, y3⟩, y4⟩ := And.intro (OpAt.cells hS.1) hS.2; go_simp; try with_reducible rfl)
  go_simp
  refine wpAnyH_take (i := 4) (v := ?v16) rfl (by kernel_rfl) (by kernel_rfl) (by kernel_rfl) (fun _ _ _ h => h) (Or.inl ⟨by rfl, ?hy16⟩) ⟨H5.out.1.r.2.1, H5.out.2.1⟩ ?rest16
  case hy16 => (intro ww _; go_simp; try with_reducible rfl)
  go_simp
  refine wpAnyH_take (i := 5) (v := ?v17) rfl (by kernel_rfl) (by kernel_rfl) (by kernel_rfl) (fun _ _ _ h => h) (Or.inl ⟨by rfl, ?hy17⟩) ⟨H5.out.1.r.2.1, H5.out.2.1⟩ ?rest17
  case hy17 => (intro ww hS; obtain ⟨⟨y0, y1, y2, y3⟩, y4⟩ := And.intro (OpAt.cells hS.1) hS.2; go_simp; try with_reducible rfl)
  go_simp
  refine wpAnyH_all (rs := [6]) (by kernel_rfl) (by simp) ?_
  intro i hi
  obtain rfl := List.mem_singleton.1 hi
  clear hi
  refine wpOp_d rfl (by rfl) (fun K hK => ?_)
  go_simp
  refine (vleave_any an _ cn s.nxt rfl HML.out r.id _ H5.out.2.2).mono ?_
  rintro e w6 ⟨v6, rfl, hown⟩
  obtain ⟨a6, c6, rfl, hin, hfa⟩ := hown.slice
  have H6 := hid (And.intro (H5.out.1.keep hown.bel) (And.intro ((hown.bel.cell (p := ⟨g, 2, none⟩) (H5.out.1.ld.lt _ H5.out.1.ld.gin)).trans H5.out.2.1) (And.intro (H5.out.2.2.keep hown.bel (Nat.le_refl _)) (And.intro hin (And.intro hfa (H5.out.1.ld.lt))))))
  clear hown hin hfa
  refine hK _ _ ⟨⟨H6.out.1.r.2.1, H6.out.2.1⟩, ?_⟩
  clear hK K
  go_simp
  refine wpAnyH_take (i := 7) (v := ?v18) rfl (by kernel_rfl) (by kernel_rfl) (by kernel_rfl) (fun _ _ _ h => h) (Or.inl ⟨by rfl, ?hy18⟩) ⟨H6.out.1.r.2.1, H6.out.2.1⟩ ?rest18
  case hy18 => (intro ww _; go_simp; try with_reducible rfl)
  go_simp
  refine wpAnyH_take (i := 8) (v := ?v19) rfl (by kernel_rfl) (by kernel_rfl) (by kernel_rfl) (fun _ _ _ h => h) (Or.inl ⟨by rfl, ?hy19⟩) ⟨H6.out.1.r.2.1, H6.out.2.1⟩ ?rest19
  case hy19 => (intro ww _; go_simp; try with_reducible rfl)
  go_simp
  refine wpAnyH_take (i := 9) (v := ?v20) rfl (by kernel_rfl) (by kernel_rfl) (by kernel_rfl) (fun _ _ _ h => h) (Or.inl ⟨by rfl, ?hy20⟩) ⟨H6.out.1.r.2.1, H6.out.2.1⟩ ?rest20
  case hy20 => (intro ww _; go_simp; try with_reducible rfl)
  go_simp
  refine wpAnyH_take (i := 10) (v := ?v21) rfl (by kernel_rfl) (by kernel_rfl) (by kernel_rfl) (fun _ _ _ h => h) (Or.inl ⟨by rfl, ?hy21⟩) ⟨H6.out.1.r.2.1, H6.out.2.1⟩ ?rest21
  case hy21 => (intro ww _; go_simp; try with_reducible rfl)
  go_simp
  refine wpAnyH_take (i := 11) (v := ?v22) rfl (by kernel_rfl) (by kernel_rfl) (by kernel_rfl) (fun _ _ _ h => h) (Or.inl ⟨by rfl, ?hy22⟩) ⟨H6.out.1.r.2.1, H6.out.2.1⟩ ?rest22
  case hy22 => (intro ww _; go_simp; try with_reducible rfl)
  go_simp
  refine wpAnyH_done (by kernel_rfl) ?_ _
  go_simp
  rw [HE.out]
  obtain ⟨d00, d1, d2, d3⟩ := H6.out.1.r.2.1.cells
  have d0 := d00.trans HKd.out
  clear d00
  obtain ⟨an2, cn2, c2, _, f2⟩ := H6.out.1.ld.c2
  have HN := hid (H6.out.1.next c6 H6.out.2.2.2.1 (fun x hx => by
    obtain ⟨p1, p2⟩ := H6.out.2.2.2.2.1 x hx
    refine ⟨fun hF => ?_, fun hL => ?_, Nat.le_trans H5.out.1.out.size p1, p2⟩
    · have := H6.out.2.2.2.2.2 _ hF
      omega
    · have := H5.out.1.lt _ hL
      omega))
  go_wp2_with (have := HN; obtain ⟨F8, h8⟩ := HN.out; refine wl_store_rs rfl _ _ rfl (w.heap.size + 1) rfl 0 0 0 0 rfl h8.r.1 ?_; intro w9 Hz; have H9 := hid (h8.put HSt.out.1 HSt.out.2 Hz.out); clear Hz h8 HN)
  refine ret_oneD (s := 4) (ad := ⟨w.heap.size + 1, 0, none⟩) rfl rfl (load_rs _ _ 0 0 H9.out.r.1) rfl ?_
  exact ⟨rfl, H9.out.fin⟩
set_option maxRecDepth 100000 in
set_option maxHeartbeats 6400000 in
theorem wmoved_leave_a {F : List Nat} {w : World} {v : Value} {s : Ls} (h : LmAt F w v s) (r : Rq) (h1 : r.k = 7) (hl : s.nxt.length ≤ maxLen) (hE : leaveE s.nxt r.id = 8) :
    Calls Tryz.prog 69 #[v, .agg #[.int .i64 r.k, .string r.key, .float .f64 r.b, .int .i64 r.id]] w fun e w' => e = .returned (.agg #[.int .i64 4, .float .f64 0]) ∧ LmTo F w w' v s := by
  have hst : Stable ([w.heap.size] ++ []) (fun u => OpAt u w.heap.size r ∧ True) := stable_and (stable_op _ r) stable_true
  have hni : w.heap.size + 1 ∉ ([w.heap.size] ++ []) := by simp
  have H0 := hid (mt_start h r)
  obtain ⟨g, rfl⟩ := h.ptr
  have HSt := hid (And.intro hst hni)
  have HML := hid hl
  have HKd : Hid (some (Value.int .i64 r.k) = some (.int .i64 7)) := hid (by rw [h1])
  have HE := hid hE
  clear h hst hni h1 hl hE
  go_enter Tryz.func69, Tryz.ntmps69
  go_wp2
  obtain ⟨W, eW⟩ : ∃ W, W = (w.alloc (.cells #[.int .i64 r.k, .string r.key, .float .f64 r.b, .int .i64 r.id] 54)).alloc (.cells #[.int .i64 0, .float .f64 0] 50) := ⟨_, rfl⟩
  rw [← eW] at H0 ⊢
  clear eW
  have H1 := hid H0.out.drew
  obtain ⟨an, cn, e1, e2, e3⟩ := H1.out.ld.c2
  have H2 := hid (And.intro H1.out (And.intro e1 e2))
  clear e1 e2 e3 H1
  refine wp_region_held (S := fun ww => OpAt ww w.heap.size r ∧ ww.cell? ⟨g, 2, none⟩ = some (.slice an s.nxt.length cn)) (by kernel_rfl) ?_
  try (change wpAnyH _ _ _ _ _ _ _ _ (World.drew _))
  refine wpAnyH_take (i := 0) (v := ?v1) rfl (by kernel_rfl) (by kernel_rfl) (by kernel_rfl) (fun _ _ _ h => h) (Or.inl ⟨by rfl, ?hy1⟩) ⟨H2.out.1.r.2.1, H2.out.2.1⟩ ?rest1
  case hy1 => (intro ww _; go_simp; try with_reducible rfl)
  go_simp
  refine wpAnyH_take (i := 1) (v := ?v2) rfl (by kernel_rfl) (by kernel_rfl) (by kernel_rfl) (fun _ _ _ h => h) (Or.inl ⟨by rfl, ?hy2⟩) ⟨H2.out.1.r.2.1, H2.out.2.1⟩ ?rest2
  case hy2 => (intro ww _; go_simp; try with_reducible rfl)
  go_simp
  refine wpAnyH_take (i := 2) (v := ?v3) rfl (by kernel_rfl) (by kernel_rfl) (by kernel_rfl) (fun _ _ _ h => h) (Or.inl ⟨by rfl, ?hy3⟩) ⟨H2.out.1.r.2.1, H2.out.2.1⟩ ?rest3
  case hy3 => (intro ww _; go_simp; try with_reducible rfl)
  go_simp
  refine wpAnyH_take (i := 3) (v := ?v4) rfl (by kernel_rfl) (by kernel_rfl) (by kernel_rfl) (fun _ _ _ h => h) (Or.inl ⟨by rfl, ?hy4⟩) ⟨H2.out.1.r.2.1, H2.out.2.1⟩ ?rest4
  case hy4 => (intro ww hS; obtain ⟨⟨y0, y1, y2, y3⟩, y4⟩ := And.intro (OpAt.cells hS.1) hS.2; go_simp; try with_reducible rfl)
  go_simp
  refine wpAnyH_take (i := 4) (v := ?v5) rfl (by kernel_rfl) (by kernel_rfl) (by kernel_rfl) (fun _ _ _ h => h) (Or.inl ⟨by rfl, ?hy5⟩) ⟨H2.out.1.r.2.1, H2.out.2.1⟩ ?rest5
  case hy5 => (intro ww _; go_simp; try with_reducible rfl)
  go_simp
  refine wpAnyH_take (i := 5) (v := ?v6) rfl (by kernel_rfl) (by kernel_rfl) (by kernel_rfl) (fun _ _ _ h => h) (Or.inl ⟨by rfl, ?hy6⟩) ⟨H2.out.1.r.2.1, H2.out.2.1⟩ ?rest6
  case hy6 => (intro ww hS; obtain ⟨⟨y0, y1, y2, y3⟩, y4⟩ := And.intro (OpAt.cells hS.1) hS.2; go_simp; try with_reducible rfl)
  go_simp
  refine wpAnyH_all (rs := [6]) (by kernel_rfl) (by simp) ?_
  intro i hi
  obtain rfl := List.mem_singleton.1 hi
  clear hi
  refine wpOp_d rfl (by rfl) (fun K hK => ?_)
  go_simp
  refine (vjoin_any an _ cn s.nxt rfl HML.out r.id _ H2.out.2.2).mono ?_
  rintro e w4 ⟨v4, rfl, hown⟩
  obtain ⟨a4, c4, rfl, hin, hfa⟩ := hown.slice
  have H4 := hid (And.intro (H2.out.1.keep hown.bel) (And.intro ((hown.bel.cell (p := ⟨g, 2, none⟩) (H2.out.1.ld.lt _ H2.out.1.ld.gin)).trans H2.out.2.1) (And.intro (H2.out.2.2.keep hown.bel (Nat.le_refl _)) (And.intro hin (And.intro hfa (H2.out.1.ld.lt))))))
  clear hown hin hfa
  refine hK _ _ ⟨⟨H4.out.1.r.2.1, H4.out.2.1⟩, ?_⟩
  clear hK K
  go_simp
  refine wpAnyH_take (i := 7) (v := ?v7) rfl (by kernel_rfl) (by kernel_rfl) (by kernel_rfl) (fun _ _ _ h => h) (Or.inl ⟨by rfl, ?hy7⟩) ⟨H4.out.1.r.2.1, H4.out.2.1⟩ ?rest7
  case hy7 => (intro ww _; go_simp; try with_reducible rfl)
  go_simp
  refine wpAnyH_take (i := 8) (v := ?v8) rfl (by kernel_rfl) (by kernel_rfl) (by kernel_rfl) (fun _ _ _ h => h) (Or.inl ⟨by rfl, ?hy8⟩) ⟨H4.out.1.r.2.1, H4.out.2.1⟩ ?rest8
  case hy8 => (intro ww _; go_simp; try with_reducible rfl)
  go_simp
  refine wpAnyH_take (i := 9) (v := ?v9) rfl (by kernel_rfl) (by kernel_rfl) (by kernel_rfl) (fun _ _ _ h => h) (Or.inl ⟨by rfl, ?hy9⟩) ⟨H4.out.1.r.2.1, H4.out.2.1⟩ ?rest9
  case hy9 => (intro ww _; go_simp; try with_reducible rfl)
  go_simp
  refine wpAnyH_take (i := 10) (v := ?v10) rfl (by kernel_rfl) (by kernel_rfl) (by kernel_rfl) (fun _ _ _ h => h) (Or.inl ⟨by rfl, ?hy10⟩) ⟨H4.out.1.r.2.1, H4.out.2.1⟩ ?rest10
  case hy10 => (intro ww _; go_simp; try with_reducible rfl)
  go_simp
  refine wpAnyH_take (i := 11) (v := ?v11) rfl (by kernel_rfl) (by kernel_rfl) (by kernel_rfl) (fun _ _ _ h => h) (Or.inl ⟨by rfl, ?hy11⟩) ⟨H4.out.1.r.2.1, H4.out.2.1⟩ ?rest11
  case hy11 => (intro ww _; go_simp; try with_reducible rfl)
  go_simp
  refine wpAnyH_done (by kernel_rfl) ?_ _
  go_simp
  obtain ⟨d00, d1, d2, d3⟩ := H4.out.1.r.2.1.cells
  have d0 := d00.trans HKd.out
  clear d00
  go_wp2
  have H5 := hid (And.intro H4.out.1.drew (And.intro (show w4.drew.cell? ⟨g, 2, none⟩ = some (.slice an s.nxt.length cn) from H4.out.2.1) (H4.out.2.2.1.keep (Below.refl _ _).drew (Nat.le_refl _))))
  clear d0 d1 d2 d3
  refine wp_region_held (S := fun ww => OpAt ww w.heap.size r ∧ ww.cell? ⟨g, 2, none⟩ = some (.slice an s.nxt.length cn)) (by kernel_rfl) ?_
  try (change wpAnyH _ _ _ _ _ _ _ _ (World.drew _))
  refine wpAnyH_take (i := 0) (v := ?v12) rfl (by kernel_rfl) (by kernel_rfl) (by kernel_rfl) (fun _ _ _ h => h) (Or.inl ⟨by rfl, ?hy12⟩) ⟨H5.out.1.r.2.1, H5.out.2.1⟩ ?rest12
  case hy12 => (intro ww _; go_simp; try with_reducible rfl)
  go_simp
  refine wpAnyH_take (i := 1) (v := ?v13) rfl (by kernel_rfl) (by kernel_rfl) (by kernel_rfl) (fun _ _ _ h => h) (Or.inl ⟨by rfl, ?hy13⟩) ⟨H5.out.1.r.2.1, H5.out.2.1⟩ ?rest13
  case hy13 => (intro ww _; go_simp; try with_reducible rfl)
  go_simp
  refine wpAnyH_take (i := 2) (v := ?v14) rfl (by kernel_rfl) (by kernel_rfl) (by kernel_rfl) (fun _ _ _ h => h) (Or.inl ⟨by rfl, ?hy14⟩) ⟨H5.out.1.r.2.1, H5.out.2.1⟩ ?rest14
  case hy14 => (intro ww _; go_simp; try with_reducible rfl)
  go_simp
  refine wpAnyH_take (i := 3) (v := ?v15) rfl (by kernel_rfl) (by kernel_rfl) (by kernel_rfl) (fun _ _ _ h => h) (Or.inl ⟨by rfl, ?hy15⟩) ⟨H5.out.1.r.2.1, H5.out.2.1⟩ ?rest15
  case hy15 => (intro ww hS; obtain ⟨⟨y0, y1, y2, y3⟩, y4⟩ := And.intro (OpAt.cells hS.1) hS.2; go_simp; try with_reducible rfl)
  go_simp
  refine wpAnyH_take (i := 4) (v := ?v16) rfl (by kernel_rfl) (by kernel_rfl) (by kernel_rfl) (fun _ _ _ h => h) (Or.inl ⟨by rfl, ?hy16⟩) ⟨H5.out.1.r.2.1, H5.out.2.1⟩ ?rest16
  case hy16 => (intro ww _; go_simp; try with_reducible rfl)
  go_simp
  refine wpAnyH_take (i := 5) (v := ?v17) rfl (by kernel_rfl) (by kernel_rfl) (by kernel_rfl) (fun _ _ _ h => h) (Or.inl ⟨by rfl, ?hy17⟩) ⟨H5.out.1.r.2.1, H5.out.2.1⟩ ?rest17
  case hy17 => (intro ww hS; obtain ⟨⟨y0, y1, y2, y3⟩, y4⟩ := And.intro (OpAt.cells hS.1) hS.2; go_simp; try with_reducible rfl)
  go_simp
  refine wpAnyH_all (rs := [6]) (by kernel_rfl) (by simp) ?_
  intro i hi
  obtain rfl := List.mem_singleton.1 hi
  clear hi
  refine wpOp_d rfl (by rfl) (fun K hK => ?_)
  go_simp
  refine (vleave_any an _ cn s.nxt rfl HML.out r.id _ H5.out.2.2).mono ?_
  rintro e w6 ⟨v6, rfl, hown⟩
  obtain ⟨a6, c6, rfl, hin, hfa⟩ := hown.slice
  have H6 := hid (And.intro (H5.out.1.keep hown.bel) (And.intro ((hown.bel.cell (p := ⟨g, 2, none⟩) (H5.out.1.ld.lt _ H5.out.1.ld.gin)).trans H5.out.2.1) (And.intro (H5.out.2.2.keep hown.bel (Nat.le_refl _)) (And.intro hin (And.intro hfa (H5.out.1.ld.lt))))))
  clear hown hin hfa
  refine hK _ _ ⟨⟨H6.out.1.r.2.1, H6.out.2.1⟩, ?_⟩
  clear hK K
  go_simp
  refine wpAnyH_take (i := 7) (v := ?v18) rfl (by kernel_rfl) (by kernel_rfl) (by kernel_rfl) (fun _ _ _ h => h) (Or.inl ⟨by rfl, ?hy18⟩) ⟨H6.out.1.r.2.1, H6.out.2.1⟩ ?rest18
  case hy18 => (intro ww _; go_simp; try with_reducible rfl)
  go_simp
  refine wpAnyH_take (i := 8) (v := ?v19) rfl (by kernel_rfl) (by kernel_rfl) (by kernel_rfl) (fun _ _ _ h => h) (Or.inl ⟨by rfl, ?hy19⟩) ⟨H6.out.1.r.2.1, H6.out.2.1⟩ ?rest19
  case hy19 => (intro ww _; go_simp; try with_reducible rfl)
  go_simp
  refine wpAnyH_take (i := 9) (v := ?v20) rfl (by kernel_rfl) (by kernel_rfl) (by kernel_rfl) (fun _ _ _ h => h) (Or.inl ⟨by rfl, ?hy20⟩) ⟨H6.out.1.r.2.1, H6.out.2.1⟩ ?rest20
  case hy20 => (intro ww _; go_simp; try with_reducible rfl)
  go_simp
  refine wpAnyH_take (i := 10) (v := ?v21) rfl (by kernel_rfl) (by kernel_rfl) (by kernel_rfl) (fun _ _ _ h => h) (Or.inl ⟨by rfl, ?hy21⟩) ⟨H6.out.1.r.2.1, H6.out.2.1⟩ ?rest21
  case hy21 => (intro ww _; go_simp; try with_reducible rfl)
  go_simp
  refine wpAnyH_take (i := 11) (v := ?v22) rfl (by kernel_rfl) (by kernel_rfl) (by kernel_rfl) (fun _ _ _ h => h) (Or.inl ⟨by rfl, ?hy22⟩) ⟨H6.out.1.r.2.1, H6.out.2.1⟩ ?rest22
  case hy22 => (intro ww _; go_simp; try with_reducible rfl)
  go_simp
  refine wpAnyH_done (by kernel_rfl) ?_ _
  go_simp
  rw [HE.out]
  obtain ⟨d00, d1, d2, d3⟩ := H6.out.1.r.2.1.cells
  have d0 := d00.trans HKd.out
  clear d00
  go_wp2_with (refine wl_store_rs rfl _ _ rfl (w.heap.size + 1) rfl 0 4 0 0 rfl H6.out.1.r.1 ?_; intro w9 Hz; have H9 := hid (H6.out.1.put HSt.out.1 HSt.out.2 Hz.out); clear Hz)
  refine ret_oneD (s := 4) (ad := ⟨w.heap.size + 1, 0, none⟩) rfl rfl (load_rs _ _ 4 0 H9.out.r.1) rfl ?_
  exact ⟨rfl, H9.out.fin⟩
set_option maxRecDepth 100000 in
set_option maxHeartbeats 6400000 in
theorem wmoved_leave_b {F : List Nat} {w : World} {v : Value} {s : Ls} (h : LmAt F w v s) (r : Rq) (h1 : r.k = 7) (hl : s.nxt.length ≤ maxLen) (hE : leaveE s.nxt r.id = 9) :
    Calls Tryz.prog 69 #[v, .agg #[.int .i64 r.k, .string r.key, .float .f64 r.b, .int .i64 r.id]] w fun e w' => e = .returned (.agg #[.int .i64 5, .float .f64 0]) ∧ LmTo F w w' v s := by
  have hst : Stable ([w.heap.size] ++ []) (fun u => OpAt u w.heap.size r ∧ True) := stable_and (stable_op _ r) stable_true
  have hni : w.heap.size + 1 ∉ ([w.heap.size] ++ []) := by simp
  have H0 := hid (mt_start h r)
  obtain ⟨g, rfl⟩ := h.ptr
  have HSt := hid (And.intro hst hni)
  have HML := hid hl
  have HKd : Hid (some (Value.int .i64 r.k) = some (.int .i64 7)) := hid (by rw [h1])
  have HE := hid hE
  clear h hst hni h1 hl hE
  go_enter Tryz.func69, Tryz.ntmps69
  go_wp2
  obtain ⟨W, eW⟩ : ∃ W, W = (w.alloc (.cells #[.int .i64 r.k, .string r.key, .float .f64 r.b, .int .i64 r.id] 54)).alloc (.cells #[.int .i64 0, .float .f64 0] 50) := ⟨_, rfl⟩
  rw [← eW] at H0 ⊢
  clear eW
  have H1 := hid H0.out.drew
  obtain ⟨an, cn, e1, e2, e3⟩ := H1.out.ld.c2
  have H2 := hid (And.intro H1.out (And.intro e1 e2))
  clear e1 e2 e3 H1
  refine wp_region_held (S := fun ww => OpAt ww w.heap.size r ∧ ww.cell? ⟨g, 2, none⟩ = some (.slice an s.nxt.length cn)) (by kernel_rfl) ?_
  try (change wpAnyH _ _ _ _ _ _ _ _ (World.drew _))
  refine wpAnyH_take (i := 0) (v := ?v1) rfl (by kernel_rfl) (by kernel_rfl) (by kernel_rfl) (fun _ _ _ h => h) (Or.inl ⟨by rfl, ?hy1⟩) ⟨H2.out.1.r.2.1, H2.out.2.1⟩ ?rest1
  case hy1 => (intro ww _; go_simp; try with_reducible rfl)
  go_simp
  refine wpAnyH_take (i := 1) (v := ?v2) rfl (by kernel_rfl) (by kernel_rfl) (by kernel_rfl) (fun _ _ _ h => h) (Or.inl ⟨by rfl, ?hy2⟩) ⟨H2.out.1.r.2.1, H2.out.2.1⟩ ?rest2
  case hy2 => (intro ww _; go_simp; try with_reducible rfl)
  go_simp
  refine wpAnyH_take (i := 2) (v := ?v3) rfl (by kernel_rfl) (by kernel_rfl) (by kernel_rfl) (fun _ _ _ h => h) (Or.inl ⟨by rfl, ?hy3⟩) ⟨H2.out.1.r.2.1, H2.out.2.1⟩ ?rest3
  case hy3 => (intro ww _; go_simp; try with_reducible rfl)
  go_simp
  refine wpAnyH_take (i := 3) (v := ?v4) rfl (by kernel_rfl) (by kernel_rfl) (by kernel_rfl) (fun _ _ _ h => h) (Or.inl ⟨by rfl, ?hy4⟩) ⟨H2.out.1.r.2.1, H2.out.2.1⟩ ?rest4
  case hy4 => (intro ww hS; obtain ⟨⟨y0, y1, y2, y3⟩, y4⟩ := And.intro (OpAt.cells hS.1) hS.2; go_simp; try with_reducible rfl)
  go_simp
  refine wpAnyH_take (i := 4) (v := ?v5) rfl (by kernel_rfl) (by kernel_rfl) (by kernel_rfl) (fun _ _ _ h => h) (Or.inl ⟨by rfl, ?hy5⟩) ⟨H2.out.1.r.2.1, H2.out.2.1⟩ ?rest5
  case hy5 => (intro ww _; go_simp; try with_reducible rfl)
  go_simp
  refine wpAnyH_take (i := 5) (v := ?v6) rfl (by kernel_rfl) (by kernel_rfl) (by kernel_rfl) (fun _ _ _ h => h) (Or.inl ⟨by rfl, ?hy6⟩) ⟨H2.out.1.r.2.1, H2.out.2.1⟩ ?rest6
  case hy6 => (intro ww hS; obtain ⟨⟨y0, y1, y2, y3⟩, y4⟩ := And.intro (OpAt.cells hS.1) hS.2; go_simp; try with_reducible rfl)
  go_simp
  refine wpAnyH_all (rs := [6]) (by kernel_rfl) (by simp) ?_
  intro i hi
  obtain rfl := List.mem_singleton.1 hi
  clear hi
  refine wpOp_d rfl (by rfl) (fun K hK => ?_)
  go_simp
  refine (vjoin_any an _ cn s.nxt rfl HML.out r.id _ H2.out.2.2).mono ?_
  rintro e w4 ⟨v4, rfl, hown⟩
  obtain ⟨a4, c4, rfl, hin, hfa⟩ := hown.slice
  have H4 := hid (And.intro (H2.out.1.keep hown.bel) (And.intro ((hown.bel.cell (p := ⟨g, 2, none⟩) (H2.out.1.ld.lt _ H2.out.1.ld.gin)).trans H2.out.2.1) (And.intro (H2.out.2.2.keep hown.bel (Nat.le_refl _)) (And.intro hin (And.intro hfa (H2.out.1.ld.lt))))))
  clear hown hin hfa
  refine hK _ _ ⟨⟨H4.out.1.r.2.1, H4.out.2.1⟩, ?_⟩
  clear hK K
  go_simp
  refine wpAnyH_take (i := 7) (v := ?v7) rfl (by kernel_rfl) (by kernel_rfl) (by kernel_rfl) (fun _ _ _ h => h) (Or.inl ⟨by rfl, ?hy7⟩) ⟨H4.out.1.r.2.1, H4.out.2.1⟩ ?rest7
  case hy7 => (intro ww _; go_simp; try with_reducible rfl)
  go_simp
  refine wpAnyH_take (i := 8) (v := ?v8) rfl (by kernel_rfl) (by kernel_rfl) (by kernel_rfl) (fun _ _ _ h => h) (Or.inl ⟨by rfl, ?hy8⟩) ⟨H4.out.1.r.2.1, H4.out.2.1⟩ ?rest8
  case hy8 => (intro ww _; go_simp; try with_reducible rfl)
  go_simp
  refine wpAnyH_take (i := 9) (v := ?v9) rfl (by kernel_rfl) (by kernel_rfl) (by kernel_rfl) (fun _ _ _ h => h) (Or.inl ⟨by rfl, ?hy9⟩) ⟨H4.out.1.r.2.1, H4.out.2.1⟩ ?rest9
  case hy9 => (intro ww _; go_simp; try with_reducible rfl)
  go_simp
  refine wpAnyH_take (i := 10) (v := ?v10) rfl (by kernel_rfl) (by kernel_rfl) (by kernel_rfl) (fun _ _ _ h => h) (Or.inl ⟨by rfl, ?hy10⟩) ⟨H4.out.1.r.2.1, H4.out.2.1⟩ ?rest10
  case hy10 => (intro ww _; go_simp; try with_reducible rfl)
  go_simp
  refine wpAnyH_take (i := 11) (v := ?v11) rfl (by kernel_rfl) (by kernel_rfl) (by kernel_rfl) (fun _ _ _ h => h) (Or.inl ⟨by rfl, ?hy11⟩) ⟨H4.out.1.r.2.1, H4.out.2.1⟩ ?rest11
  case hy11 => (intro ww _; go_simp; try with_reducible rfl)
  go_simp
  refine wpAnyH_done (by kernel_rfl) ?_ _
  go_simp
  obtain ⟨d00, d1, d2, d3⟩ := H4.out.1.r.2.1.cells
  have d0 := d00.trans HKd.out
  clear d00
  go_wp2
  have H5 := hid (And.intro H4.out.1.drew (And.intro (show w4.drew.cell? ⟨g, 2, none⟩ = some (.slice an s.nxt.length cn) from H4.out.2.1) (H4.out.2.2.1.keep (Below.refl _ _).drew (Nat.le_refl _))))
  clear d0 d1 d2 d3
  refine wp_region_held (S := fun ww => OpAt ww w.heap.size r ∧ ww.cell? ⟨g, 2, none⟩ = some (.slice an s.nxt.length cn)) (by kernel_rfl) ?_
  try (change wpAnyH _ _ _ _ _ _ _ _ (World.drew _))
  refine wpAnyH_take (i := 0) (v := ?v12) rfl (by kernel_rfl) (by kernel_rfl) (by kernel_rfl) (fun _ _ _ h => h) (Or.inl ⟨by rfl, ?hy12⟩) ⟨H5.out.1.r.2.1, H5.out.2.1⟩ ?rest12
  case hy12 => (intro ww _; go_simp; try with_reducible rfl)
  go_simp
  refine wpAnyH_take (i := 1) (v := ?v13) rfl (by kernel_rfl) (by kernel_rfl) (by kernel_rfl) (fun _ _ _ h => h) (Or.inl ⟨by rfl, ?hy13⟩) ⟨H5.out.1.r.2.1, H5.out.2.1⟩ ?rest13
  case hy13 => (intro ww _; go_simp; try with_reducible rfl)
  go_simp
  refine wpAnyH_take (i := 2) (v := ?v14) rfl (by kernel_rfl) (by kernel_rfl) (by kernel_rfl) (fun _ _ _ h => h) (Or.inl ⟨by rfl, ?hy14⟩) ⟨H5.out.1.r.2.1, H5.out.2.1⟩ ?rest14
  case hy14 => (intro ww _; go_simp; try with_reducible rfl)
  go_simp
  refine wpAnyH_take (i := 3) (v := ?v15) rfl (by kernel_rfl) (by kernel_rfl) (by kernel_rfl) (fun _ _ _ h => h) (Or.inl ⟨by rfl, ?hy15⟩) ⟨H5.out.1.r.2.1, H5.out.2.1⟩ ?rest15
  case hy15 => (intro ww hS; obtain ⟨⟨y0, y1, y2, y3⟩, y4⟩ := And.intro (OpAt.cells hS.1) hS.2; go_simp; try with_reducible rfl)
  go_simp
  refine wpAnyH_take (i := 4) (v := ?v16) rfl (by kernel_rfl) (by kernel_rfl) (by kernel_rfl) (fun _ _ _ h => h) (Or.inl ⟨by rfl, ?hy16⟩) ⟨H5.out.1.r.2.1, H5.out.2.1⟩ ?rest16
  case hy16 => (intro ww _; go_simp; try with_reducible rfl)
  go_simp
  refine wpAnyH_take (i := 5) (v := ?v17) rfl (by kernel_rfl) (by kernel_rfl) (by kernel_rfl) (fun _ _ _ h => h) (Or.inl ⟨by rfl, ?hy17⟩) ⟨H5.out.1.r.2.1, H5.out.2.1⟩ ?rest17
  case hy17 => (intro ww hS; obtain ⟨⟨y0, y1, y2, y3⟩, y4⟩ := And.intro (OpAt.cells hS.1) hS.2; go_simp; try with_reducible rfl)
  go_simp
  refine wpAnyH_all (rs := [6]) (by kernel_rfl) (by simp) ?_
  intro i hi
  obtain rfl := List.mem_singleton.1 hi
  clear hi
  refine wpOp_d rfl (by rfl) (fun K hK => ?_)
  go_simp
  refine (vleave_any an _ cn s.nxt rfl HML.out r.id _ H5.out.2.2).mono ?_
  rintro e w6 ⟨v6, rfl, hown⟩
  obtain ⟨a6, c6, rfl, hin, hfa⟩ := hown.slice
  have H6 := hid (And.intro (H5.out.1.keep hown.bel) (And.intro ((hown.bel.cell (p := ⟨g, 2, none⟩) (H5.out.1.ld.lt _ H5.out.1.ld.gin)).trans H5.out.2.1) (And.intro (H5.out.2.2.keep hown.bel (Nat.le_refl _)) (And.intro hin (And.intro hfa (H5.out.1.ld.lt))))))
  clear hown hin hfa
  refine hK _ _ ⟨⟨H6.out.1.r.2.1, H6.out.2.1⟩, ?_⟩
  clear hK K
  go_simp
  refine wpAnyH_take (i := 7) (v := ?v18) rfl (by kernel_rfl) (by kernel_rfl) (by kernel_rfl) (fun _ _ _ h => h) (Or.inl ⟨by rfl, ?hy18⟩) ⟨H6.out.1.r.2.1, H6.out.2.1⟩ ?rest18
  case hy18 => (intro ww _; go_simp; try with_reducible rfl)
  go_simp
  refine wpAnyH_take (i := 8) (v := ?v19) rfl (by kernel_rfl) (by kernel_rfl) (by kernel_rfl) (fun _ _ _ h => h) (Or.inl ⟨by rfl, ?hy19⟩) ⟨H6.out.1.r.2.1, H6.out.2.1⟩ ?rest19
  case hy19 => (intro ww _; go_simp; try with_reducible rfl)
  go_simp
  refine wpAnyH_take (i := 9) (v := ?v20) rfl (by kernel_rfl) (by kernel_rfl) (by kernel_rfl) (fun _ _ _ h => h) (Or.inl ⟨by rfl, ?hy20⟩) ⟨H6.out.1.r.2.1, H6.out.2.1⟩ ?rest20
  case hy20 => (intro ww _; go_simp; try with_reducible rfl)
  go_simp
  refine wpAnyH_take (i := 10) (v := ?v21) rfl (by kernel_rfl) (by kernel_rfl) (by kernel_rfl) (fun _ _ _ h => h) (Or.inl ⟨by rfl, ?hy21⟩) ⟨H6.out.1.r.2.1, H6.out.2.1⟩ ?rest21
  case hy21 => (intro ww _; go_simp; try with_reducible rfl)
  go_simp
  refine wpAnyH_take (i := 11) (v := ?v22) rfl (by kernel_rfl) (by kernel_rfl) (by kernel_rfl) (fun _ _ _ h => h) (Or.inl ⟨by rfl, ?hy22⟩) ⟨H6.out.1.r.2.1, H6.out.2.1⟩ ?rest22
  case hy22 => (intro ww _; go_simp; try with_reducible rfl)
  go_simp
  refine wpAnyH_done (by kernel_rfl) ?_ _
  go_simp
  rw [HE.out]
  obtain ⟨d00, d1, d2, d3⟩ := H6.out.1.r.2.1.cells
  have d0 := d00.trans HKd.out
  clear d00
  go_wp2_with (refine wl_store_rs rfl _ _ rfl (w.heap.size + 1) rfl 0 5 0 0 rfl H6.out.1.r.1 ?_; intro w9 Hz; have H9 := hid (H6.out.1.put HSt.out.1 HSt.out.2 Hz.out); clear Hz)
  refine ret_oneD (s := 4) (ad := ⟨w.heap.size + 1, 0, none⟩) rfl rfl (load_rs _ _ 5 0 H9.out.r.1) rfl ?_
  exact ⟨rfl, H9.out.fin⟩
end Go.Proofs.YtecidbdbdnnglaaGreat

/- The document's ledger: what a right operation comes to. -/
namespace Go.Proofs.YtecidbdbdnnglaaGreat
open Go.RowKit

theorem wkeyed_any {F : List Nat} {w : World} {v : Value} {s : Ls} (h : LmAt F w v s) (hok : LOk s) (r : Rq) (hr : rightB r = true) (hm : isMov r = false) (hb : r.b < 18446744073709551616) :
    Calls Tryz.prog 70 #[v, .agg #[.int .i64 r.k, .string r.key, .float .f64 r.b, .int .i64 r.id]] w fun e w' => e = .returned (.agg #[.int .i64 (effC s r), .float .f64 (effF s r)]) ∧ LmTo F w w' v (effS s r) := by
  rw [show effC s r = keyC s.its r by rw [effC, hm]; rfl, show effF s r = keyF s.its r by rw [effF, hm]; rfl, show effS s r = { s with its := keyN s.its r } by rw [effS, hm]; rfl]
  have hk := (right_fields hr).2.2.1
  have hm2 := of_decide_eq_false hm
  by_cases h1 : r.k = 1
  · by_cases hf : getK r.key s.its = none ∧ 16 ≤ s.its.length
    · rw [keyC, keyF, keyN, if_pos h1, if_pos h1, if_pos h1, if_pos hf, if_pos hf, if_pos hf]
      exact wkeyed_full h r hok.few h1 hf.1 hf.2
    · rw [keyC, keyF, keyN, if_pos h1, if_pos h1, if_pos h1, if_neg hf, if_neg hf, if_neg hf]
      cases hg : getK r.key s.its with
      | none => exact wkeyed_puta h r hok.few h1 hg (fun hl => hf ⟨hg, hl⟩)
      | some x => exact wkeyed_putb h r hok.few h1 x hg
  · cases hg : getK r.key s.its with
    | none =>
      obtain ⟨e1, e2, e3⟩ := key_none h1 hg
      rw [e1, e2, e3]
      exact wkeyed_none h r hok.few h1 hg
    | some x =>
      have hx : x < 18446744073709551616 := (hok.keys _ (List.mem_of_getElem? (pos_at hg))).2.2
      have hC : keyC s.its r = 0 := by rw [keyC, if_neg h1, if_neg (by rw [hg]; simp)]
      rw [hC]
      by_cases h2 : r.k = 2
      · rw [show keyF s.its r = addW x r.b by rw [keyF, if_neg h1, hg]; simp [h2], show keyN s.its r = putK r.key (addW x r.b) s.its by rw [keyN, if_neg h1, hg]; simp [h2]]
        exact wkeyed_add h r hok.few h2 x hg hx hb
      · by_cases h3 : r.k = 3
        · rw [show keyF s.its r = mostW x r.b by rw [keyF, if_neg h1, hg]; simp [h3], show keyN s.its r = putK r.key (mostW x r.b) s.its by rw [keyN, if_neg h1, hg]; simp [h3]]
          exact wkeyed_most h r hok.few h3 x hg hx hb
        · by_cases h4 : r.k = 4
          · rw [show keyF s.its r = x by rw [keyF, if_neg h1, hg]; simp [h4], show keyN s.its r = cutK r.key s.its by rw [keyN, if_neg h1, hg]; simp [h4]]
            exact wkeyed_cut h r hok.few h4 x hg hx hb
          · have h5 : r.k = 5 := by omega
            rw [show keyF s.its r = x by rw [keyF, if_neg h1, hg]; simp [h5], show keyN s.its r = s.its by rw [keyN, if_neg h1, hg]; simp [h5]]
            exact wkeyed_see h r hok.few h5 x hg hx hb
theorem wmoved_any {F : List Nat} {w : World} {v : Value} {s : Ls} (h : LmAt F w v s) (hok : LOk s) (r : Rq) (hr : rightB r = true) (hm : isMov r = true) :
    Calls Tryz.prog 69 #[v, .agg #[.int .i64 r.k, .string r.key, .float .f64 r.b, .int .i64 r.id]] w fun e w' => e = .returned (.agg #[.int .i64 (effC s r), .float .f64 (effF s r)]) ∧ LmTo F w w' v (effS s r) := by
  rw [show effC s r = movC s.nxt r by rw [effC, hm]; rfl, show effF s r = 0 by rw [effF, hm]; rfl, show effS s r = { s with nxt := movN s.nxt r } by rw [effS, hm]; rfl]
  have hid0 := (right_fields hr).2.2.2.2
  have hln : s.nxt.length ≤ maxLen := by have := mem_len hok.nx; unfold maxLen; omega
  have hp : ¬ ¬ (memB s.nxt = true ∧ 0 ≤ r.id ∧ r.id < 16) := not_not_intro ⟨hok.nx, hid0.1, hid0.2⟩
  have hfix : ({ s with nxt := s.nxt } : Ls) = s := rfl
  by_cases h6 : r.k = 6
  · have eE : movE s.nxt r = joinE s.nxt r.id := by rw [movE, if_pos h6]
    by_cases c1 : hasM s.nxt r.id = true
    · have e : joinE s.nxt r.id = 7 := by rw [joinE, if_neg hp, if_pos c1]
      rw [movC, movN, eE, e]
      exact wmoved_join_a h r h6 hln e
    · by_cases c2 : 10 ≤ s.nxt.length
      · have e : joinE s.nxt r.id = 10 := by rw [joinE, if_neg hp, if_neg c1, if_pos c2]
        rw [movC, movN, eE, e]
        exact wmoved_join_b h r h6 hln e
      · have e : joinE s.nxt r.id = 0 := by rw [joinE, if_neg hp, if_neg c1, if_neg c2]
        rw [movC, movN, eE, e, show movR s.nxt r = joinR s.nxt r.id by rw [movR, if_pos h6]]
        exact wmoved_join_ok h r h6 hln e
  · have h7 : r.k = 7 := by
      have := of_decide_eq_true hm
      omega
    have eE : movE s.nxt r = leaveE s.nxt r.id := by rw [movE, if_neg h6]
    by_cases c1 : hasM s.nxt r.id = false
    · have e : leaveE s.nxt r.id = 8 := by rw [leaveE, if_neg hp, if_pos c1]
      rw [movC, movN, eE, e]
      exact wmoved_leave_a h r h7 hln e
    · by_cases c2 : s.nxt.length ≤ 4
      · have e : leaveE s.nxt r.id = 9 := by rw [leaveE, if_neg hp, if_neg c1, if_pos c2]
        rw [movC, movN, eE, e]
        exact wmoved_leave_b h r h7 hln e
      · have e : leaveE s.nxt r.id = 0 := by rw [leaveE, if_neg hp, if_neg c1, if_neg c2]
        rw [movC, movN, eE, e, show movR s.nxt r = leaveR s.nxt r.id by rw [movR, if_neg h6]]
        exact wmoved_leave_ok h r h7 hln e
/-- A deed is kept: the stamp, then the result. -/
theorem stL_set (l : List De) (c : Nat) (d : De) : (stL l).set (c + 1) (d.1 : Int) = stL (l.set c d) := by
  rw [stL, stL, List.set_cons_succ, List.map_set]
theorem reL_set (l : List De) (c : Nat) (d : De) : (reL l).set (c + 1) d.2 = reL (l.set c d) := by
  rw [reL, reL, List.set_cons_succ, List.map_set]
theorem iC_set (l : List Int) (c : Nat) (z : Int) : (iC l).set c (.int .i64 z) = iC (l.set c z) := by rw [iC, iC, List.map_set]
theorem LrA.deed {w w1 w2 : World} {g gs gr : Nat} {am an ai : Option Addr} {cm cn ci : Nat} {s : Ls} (h : LrA w g gs gr am an ai cm cn ci s) (c : Nat) (hc : c < 8) (d : De)
    (h1 : w1 = w.setCell ⟨gs, c + 1, none⟩ (.int .i64 (d.1 : Int))) (h2 : w2.heap[gr]? = some (.cells (((rsC2 (reL s.lst)).set ((c + 1) * 2) (.int .i64 d.2.1)).set ((c + 1) * 2 + 1) (.float .f64 d.2.2)).toArray 50 (0, 0))) (ho2 : One gr w1 w2) :
    LrA w2 g gs gr am an ai cm cn ci { s with lst := s.lst.set c d } := by
  have ho1 : One gs w w1 := by rw [h1]; exact one_cellR w gs (c + 1) _
  have hz : w.heap.size ≤ w2.heap.size := by rw [ho2.size, ho1.size]; exact Nat.le_refl _
  have hb : ∀ k, k ≠ gs → k ≠ gr → w2.heap[k]? = w.heap[k]? := fun k a b => (ho2.block k b).trans (ho1.block k a)
  have hst : w1.heap[gs]? = some (.cells (iC (stL (s.lst.set c d))).toArray 3 (0, 0)) := by
    rw [h1]
    refine (blk_set h.st (c + 1) _).trans ?_
    rw [← stL_set, ← iC_set]
    simp
  refine ⟨(hb g h.ne.1 h.ne.2.1).trans h.blk, ints_stayR h.im hz (fun x hx => hb _ (h.ma x hx).1.2.1 (h.ma x hx).1.2.2), ints_stayR h.ix hz (fun x hx => hb _ (h.na x hx).1.2.1 (h.na x hx).1.2.2), h.it.stay hz (fun x hx => hb _ (h.ia x hx).1.2.1 (h.ia x hx).1.2.2),
    (ho2.block gs h.ne.2.2).trans hst, ?_, h.ne, fun x hx => ⟨(h.ma x hx).1, Nat.lt_of_lt_of_le (h.ma x hx).2 hz⟩, fun x hx => ⟨(h.na x hx).1, Nat.lt_of_lt_of_le (h.na x hx).2 hz⟩, fun x hx => ⟨(h.ia x hx).1, Nat.lt_of_lt_of_le (h.ia x hx).2 hz⟩, by rw [List.length_set]; exact h.len⟩
  rw [h2, rsC2_set _ _ d.2 (by rw [reL, List.length_cons, List.length_map, h.len]; omega), reL_set]
end Go.Proofs.YtecidbdbdnnglaaGreat
