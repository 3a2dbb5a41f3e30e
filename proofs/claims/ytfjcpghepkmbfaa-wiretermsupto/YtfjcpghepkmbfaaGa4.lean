/- Texts laid together: RlC DsC MwT TxA DsD DsS BaD BaE DsE DsF DsG DsH StA DeB. -/
import Derived.Test.YtfjcpghepkmbfaaGa1
import Derived.Test.YtfjcpghepkmbfaaGa2
import Derived.Deep.MidRow
import Derived.OrdersHeld
import Derived.Deep.QuietTactic
import Derived.Test.YtfjcpghepkmbfaaGa3
/- The contracts of the reference of package reals (all but the texts). -/
namespace Go.Proofs.Ytfjcpghepkmbfaa
open Go.RowKit

theorem wild_any (n : Nat) (w : World) : Calls Try.prog 80 #[.int .u64 (n : Int)] w fun e w' => e = .returned (.bool (nanW n)) ∧ w' = w := by
  go_enter Try.func80, Try.ntmps80
  go_wp2
  · rename_i h
    go_ret
    refine ⟨?_, rfl⟩
    show Ending.returned (.bool _) = _
    congr 2
    rw [Bool.eq_iff_iff]
    simp [nanW]
    omega
  · rename_i h
    go_ret
    refine ⟨?_, rfl⟩
    have : nanW n = false := by simp [nanW]; omega
    rw [this]; rfl

theorem kbits_any (b : Nat) (w : World) : Calls Try.prog 51 #[.float .f64 b] w fun e w' => e = .returned (.int .u64 (canW b : Nat)) ∧ w' = w := by
  go_enter Try.func51, Try.ntmps51
  cases hn : nanW b
  · go_wp2_with (first | (go_at_call 80; refine (wild_any _ _).mono ?_; rintro e w1 ⟨rfl, rfl⟩; rw [hn]) | rw [fb_run])
    go_ret
    exact ⟨by simp [canW, hn], rfl⟩
  · go_wp2_with (first | (go_at_call 80; refine (wild_any _ _).mono ?_; rintro e w1 ⟨rfl, rfl⟩; rw [hn]) | rw [fb_run])
    go_ret
    exact ⟨by simp [canW, hn], rfl⟩

def placeW (n : Nat) : Nat := bif nanW n then 18446744073709551615 else bif decide (9223372036854775808 ≤ n) then 9223372036854775807 - n % 9223372036854775808 else 9223372036854775808 + n
theorem canW_ne (n : Nat) : (canW n == n) = !(nanW n && n != 9221120237041090560) := by
  cases h : nanW n
  · simp [canW, h]
  · simp [canW, h]
    rw [Bool.eq_iff_iff]; simp; omega
theorem rank_place (a b : Nat) (ha : a < 18446744073709551616) (hb : b < 18446744073709551616) : (rankW a < rankW b) ↔ (placeW a < placeW b) := by
  have h1 : ∀ n, nanW n = true → rankW n = 18444492273895866368 ∧ placeW n = 18446744073709551615 := fun n h => by simp [rankW, placeW, canW, h]
  have h2 : ∀ n, n < 18446744073709551616 → nanW n = false → rankW n = placeW n ∧ rankW n ≤ 18442240474082181120 := fun n hn h => by
    have hl : ¬ (9218868437227405312 < n % 9223372036854775808) := by simpa [nanW] using h
    by_cases hg : 9223372036854775808 ≤ n
    · simp [rankW, placeW, canW, h, hg]; omega
    · simp [rankW, placeW, canW, h, hg]; omega
  cases hx : nanW a <;> cases hy : nanW b
  · rw [(h2 a ha hx).1, (h2 b hb hy).1]
  · have := h2 a ha hx; have := h1 b hy; omega
  · have := h1 a hx; have := h2 b hb hy; omega
  · have := h1 a hx; have := h1 b hy; omega

theorem rank_can (a : Nat) : rankW (canW a) = rankW a := by simp only [rankW, canW_idem]

end Go.Proofs.Ytfjcpghepkmbfaa

/- The document's deeds: which operation is right, which request, which is the null one. -/
namespace Go.Proofs.Ytfjcpghepkmbfaa
open Go.RowKit

theorem ret_bool {X Y : Bool} (h : X = Y) : Ending.returned (.bool X) = Ending.returned (.bool Y) := by rw [h]
theorem none_size (s : ByteArray) : s.toList.isEmpty = decide (s.size = 0) := by
  rw [ByteArray.toList_eq]
  cases h : s.data.toList with
  | nil =>
    have : s.size = 0 := by rw [← data_len, h]; rfl
    simp [this]
  | cons x l =>
    have : s.size ≠ 0 := by rw [← data_len, h]; simp
    simp [this]
/-- An operation, a request in a variable. -/
def OpAt (w : World) (b : Nat) (r : Rq) : Prop := w.heap[b]? = some (.cells [.int .i64 r.k, .string r.key, .float .f64 r.b, .int .i64 r.id].toArray 24 (0, 0))
def RqAt (w : World) (b : Nat) (r : Rq) : Prop := w.heap[b]? = some (.cells [.int .i64 r.c, .int .i64 r.st, .int .i64 r.k, .string r.key, .float .f64 r.b, .int .i64 r.id].toArray 26 (0, 0))
theorem OpAt.cells {w : World} {b : Nat} {r : Rq} (h : OpAt w b r) : w.cell? ⟨b, 0, none⟩ = some (.int .i64 r.k) ∧ w.cell? ⟨b, 1, none⟩ = some (.string r.key) ∧ w.cell? ⟨b, 2, none⟩ = some (.float .f64 r.b) ∧ w.cell? ⟨b, 3, none⟩ = some (.int .i64 r.id) :=
  ⟨cell_at h 0 _ rfl, cell_at h 1 _ rfl, cell_at h 2 _ rfl, cell_at h 3 _ rfl⟩
theorem RqAt.cells {w : World} {b : Nat} {r : Rq} (h : RqAt w b r) : (w.cell? ⟨b, 0, none⟩ = some (.int .i64 r.c) ∧ w.cell? ⟨b, 1, none⟩ = some (.int .i64 r.st)) ∧ w.cell? ⟨b, 2, none⟩ = some (.int .i64 r.k) ∧ w.cell? ⟨b, 3, none⟩ = some (.string r.key) ∧ w.cell? ⟨b, 4, none⟩ = some (.float .f64 r.b) ∧ w.cell? ⟨b, 5, none⟩ = some (.int .i64 r.id) :=
  ⟨⟨cell_at h 0 _ rfl, cell_at h 1 _ rfl⟩, cell_at h 2 _ rfl, cell_at h 3 _ rfl, cell_at h 4 _ rfl, cell_at h 5 _ rfl⟩
theorem OpAt.keep {w w' : World} {b : Nat} {r : Rq} (h : OpAt w b r) (hb : Below w.heap.size w w') : OpAt w' b r := (hb.block b (lt_of_blk h)).trans h
theorem RqAt.keep {w w' : World} {b : Nat} {r : Rq} (h : RqAt w b r) (hb : Below w.heap.size w w') : RqAt w' b r := (hb.block b (lt_of_blk h)).trans h
end Go.Proofs.Ytfjcpghepkmbfaa

/- The contracts of the document's writer: texts. -/
namespace Go.Proofs.Ytfjcpghepkmbfaa
open Go.RowKit

end Go.Proofs.Ytfjcpghepkmbfaa

/- The document's writer, as the walks of its users see it: what lies in it, numbers, bits, texts put to it, its end. -/
namespace Go.Proofs.Ytfjcpghepkmbfaa
open Go.RowKit

theorem wLx (lim : Int) (l : List UInt8) (s n : Nat) (hn : n < 256 ^ s) (hl : (l.length : Int) + s ≤ lim) : wL lim l 0 s (n : Int) = l ++ be s n ∧ wE lim l 0 s (n : Int) = 0 := by
  have h : adm lim l.length 0 (inR s (n : Int)) s = 0 := by
    have hi : inR s (n : Int) = true := by
      unfold inR
      exact decide_eq_true ⟨Int.natCast_nonneg _, by exact_mod_cast hn⟩
    rw [hi]
    unfold adm
    rw [if_pos rfl, if_pos rfl, if_neg (by omega)]
  exact ⟨by rw [wL, if_pos h, Int.toNat_natCast], by rw [wE, h]⟩
theorem xLx (lim : Int) (l : List UInt8) (s : ByteArray) (hs : s.size ≤ 65535) (hl : (l.length : Int) + (2 + s.size) ≤ lim) : xL lim l 0 s = l ++ (be 2 s.size ++ s.data.toList) ∧ xE lim l 0 s = 0 := by
  have h : xE lim l 0 s = 0 := by
    unfold xE adm
    rw [if_pos rfl, decide_eq_true hs, if_pos rfl, if_neg (by omega)]
  exact ⟨by rw [xL, if_pos h], h⟩
theorem bLx (lim : Int) (l : List UInt8) (n : Nat) (hl : (l.length : Int) + 8 ≤ lim) : bL lim l 0 n = l ++ be 8 n ∧ bE lim l 0 = 0 := by
  have h : bE lim l 0 = 0 := by
    unfold bE adm
    rw [if_pos rfl, if_pos rfl, if_neg (by omega)]
  exact ⟨by rw [bL, if_pos h], h⟩
def teT (l : List UInt8) (er : Int) : ByteArray := if er = 0 then ⟨l.toArray⟩ else ⟨#[]⟩
end Go.Proofs.Ytfjcpghepkmbfaa

/- The document's text of a request. -/
namespace Go.Proofs.Ytfjcpghepkmbfaa
open Go.RowKit

theorem below_up {B C : Nat} {x y z : World} (h : Below B x y) (k : Below C y z) (hC : B ≤ C) (_hs : C ≤ y.heap.size) : Below B x z := h.trans (k.mono hC)
end Go.Proofs.Ytfjcpghepkmbfaa

/- Stores of reals, of requests and of results, as one step of a walk each. -/
namespace Go.Proofs.Ytfjcpghepkmbfaa
open Go.RowKit

/-- Only block b may be another one. -/
structure One (b : Nat) (w w' : World) : Prop where
  os : w'.os = w.os
  tape : w'.tape = w.tape
  output : w'.output = w.output
  size : w'.heap.size = w.heap.size
  block : ∀ k, k ≠ b → w'.heap[k]? = w.heap[k]?
theorem one_cells (b : Nat) : ∀ (vs : List Value) (o : Nat) (w : World), One b w (w.setCells b o vs)
  | [], _, _ => ⟨rfl, rfl, rfl, rfl, fun _ _ => rfl⟩
  | v :: vs, o, w => by
    have h := one_cells b vs (o + 1) (w.setCell ⟨b, o, none⟩ v)
    exact ⟨h.os, h.tape, h.output, h.size.trans (by simp [World.setCell]), fun k hk => (h.block k hk).trans (Below.heap_setCell _ _ _ _ hk)⟩
theorem One.below {b B : Nat} {x w w' : World} (h : One b w w') (hb : Below B x w) (hB : B ≤ b) : Below B x w' :=
  ⟨h.os.trans hb.os, h.tape.trans hb.tape, h.output.trans hb.output, by rw [h.size]; exact hb.size, fun k hk => (h.block k (by omega)).trans (hb.block k hk)⟩
theorem rq_all {w : World} {b : Nat} {r0 r : Rq} (h : RqAt w b r0) : RqAt (w.setCells b 0 [.int .i64 r.c, .int .i64 r.st, .int .i64 r.k, .string r.key, .float .f64 r.b, .int .i64 r.id]) b r := by
  have h0 := blk_set h 0 (.int .i64 r.c)
  have h1 := blk_set h0 1 (.int .i64 r.st)
  have h2 := blk_set h1 2 (.int .i64 r.k)
  have h3 := blk_set h2 3 (.string r.key)
  have h4 := blk_set h3 4 (.float .f64 r.b)
  have h5 := blk_set h4 5 (.int .i64 r.id)
  exact h5.trans (by simp)
theorem rq_there {w : World} {b : Nat} {r0 : Rq} (h : RqAt w b r0) : w.there b 0 6 := fun j hj => by
  obtain ⟨⟨z0, z1⟩, z2, z3, z4, z5⟩ := h.cells
  refine ⟨?_, free_at h _⟩
  rw [Nat.zero_add]
  match j, hj with
  | 0, _ => rw [z0]; rfl
  | 1, _ => rw [z1]; rfl
  | 2, _ => rw [z2]; rfl
  | 3, _ => rw [z3]; rfl
  | 4, _ => rw [z4]; rfl
  | 5, _ => rw [z5]; rfl
/-- A result in a variable. -/
def RsAt (w : World) (b : Nat) (c : Int) (f : Nat) : Prop := w.heap[b]? = some (.cells [.int .i64 c, .float .f64 f].toArray 28 (0, 0))
theorem RsAt.cells {w : World} {b : Nat} {c : Int} {f : Nat} (h : RsAt w b c f) : w.cell? ⟨b, 0, none⟩ = some (.int .i64 c) ∧ w.cell? ⟨b, 1, none⟩ = some (.float .f64 f) := ⟨cell_at h 0 _ rfl, cell_at h 1 _ rfl⟩
theorem RsAt.keep {w w' : World} {b : Nat} {c : Int} {f : Nat} (h : RsAt w b c f) (hb : Below w.heap.size w w') : RsAt w' b c f := (hb.block b (lt_of_blk h)).trans h
theorem rs_all {w : World} {b : Nat} {c0 c : Int} {f0 f : Nat} (h : RsAt w b c0 f0) : RsAt (w.setCells b 0 [.int .i64 c, .float .f64 f]) b c f := by
  have h0 := blk_set h 0 (.int .i64 c)
  have h1 := blk_set h0 1 (.float .f64 f)
  exact h1.trans (by simp)
theorem rs_there {w : World} {b : Nat} {c : Int} {f : Nat} (h : RsAt w b c f) : w.there b 0 2 := fun j hj => by
  obtain ⟨z0, z1⟩ := h.cells
  refine ⟨?_, free_at h _⟩
  rw [Nat.zero_add]
  match j, hj with
  | 0, _ => rw [z0]; rfl
  | 1, _ => rw [z1]; rfl
section
variable {P : Program} {o : Oper} {a : Act} {w : World} {Q : Exit → Act → World → Prop} {ops : Array Oper} {rest : List Oper}
theorem wl_store_rq (hgd : o.guard = none) (p x : Operand) (ho : o.op = .store 26 p x) (b : Nat) (hp : a.eval p = .pointer (some ⟨b, 0, none⟩)) (r0 r : Rq) (hx : a.eval x = .agg #[.int .i64 r.c, .int .i64 r.st, .int .i64 r.k, .string r.key, .float .f64 r.b, .int .i64 r.id]) (hR : RqAt w b r0)
    (h : ∀ w', Hid (RqAt w' b r ∧ One b w w') → wpList Try.prog ops Q rest (a.put o.dst undef) w') : wpList Try.prog ops Q (o :: rest) a w :=
  wpList_store_mid (P := Try.prog) hgd 26 p x ho b 0 #[.int .i64 r.c, .int .i64 r.st, .int .i64 r.k, .string r.key, .float .f64 r.b, .int .i64 r.id] hp hx (rq_there hR) (by kernel_rfl) (by simp [Value.oneCell']) (h _ ⟨rq_all hR, one_cells b _ 0 w⟩)
theorem wl_store_rs (hgd : o.guard = none) (p x : Operand) (ho : o.op = .store 28 p x) (b : Nat) (hp : a.eval p = .pointer (some ⟨b, 0, none⟩)) (c0 c : Int) (f0 f : Nat) (hx : a.eval x = .agg #[.int .i64 c, .float .f64 f]) (hR : RsAt w b c0 f0)
    (h : ∀ w', Hid (RsAt w' b c f ∧ One b w w') → wpList Try.prog ops Q rest (a.put o.dst undef) w') : wpList Try.prog ops Q (o :: rest) a w :=
  wpList_store_mid (P := Try.prog) hgd 28 p x ho b 0 #[.int .i64 c, .float .f64 f] hp hx (rs_there hR) (by kernel_rfl) (by simp [Value.oneCell']) (h _ ⟨rs_all hR, one_cells b _ 0 w⟩)
/-- A real put into a field. -/
theorem wl_store_f (hgd : o.guard = none) (p x : Operand) (ho : o.op = .store 22 p x) (b off : Nat) (hp : a.eval p = .pointer (some ⟨b, off, none⟩)) (f : Nat) (hx : a.eval x = .float .f64 f) (v : Value) (hc : w.cell? ⟨b, off, none⟩ = some v) (hf : w.frozen? ⟨b, off, none⟩ = false)
    (h : wpList Try.prog ops Q rest (a.put o.dst undef) (w.setCell ⟨b, off, none⟩ (.float .f64 f))) : wpList Try.prog ops Q (o :: rest) a w := by
  refine wpList_plain hgd fun K hK => owp_skip (w' := w.setCell ⟨b, off, none⟩ (.float .f64 f)) ?_ (hK _ _ h)
  have hi : (Try.prog.info? 22).map (·.size) = some 1 := by kernel_rfl
  have hr := run_store Try.prog w ⟨b, off, none⟩ (.float .f64 f) .plain rfl
  rw [hc] at hr
  simp only [hf] at hr
  cases hq : Try.prog.info? 22 with
  | none => simp [hq] at hi
  | some i =>
    have hs : i.size = 1 := by simp [hq] at hi; omega
    simp [execOp, ho, Instr.storeAt, Instr.sureAddr, hp, hx, storeVar, sizeOf, typeInfo, hq, hs, Value.cells, storeCells, Addr.add, hr, Result.andThen]
end
end Go.Proofs.Ytfjcpghepkmbfaa

/- What all families of texts share: one operation that is ready in a region that draws. -/
namespace Go.Proofs.Ytfjcpghepkmbfaa
open Go.RowKit

section
variable {P : Program} {ops : Array Oper} {o : Oper} {a : Act} {w : World} {K : Act → World → Prop} {Q : Exit → Act → World → Prop}
theorem wpOp_q {i : Nat} (hi : ops[i]? = some o) (hgd : o.guard = none) (h : ∀ K' : Act → World → Prop, (∀ a w, K a w → K' a w) → o.wp P a w K' Q) : wpOp P ops Q i K a w := by
  unfold Go.wpOp
  simp only [hi]
  have hw : Region.wanted o (yielded ops a.tmps) = true := by simp [Region.wanted, hgd]
  simp only [hw, if_true]
  exact .inl (h K (fun _ _ h => h))
end
end Go.Proofs.Ytfjcpghepkmbfaa

/- What all families of texts share: results that live in a variable; rows of one's own beside a store elsewhere. -/
namespace Go.Proofs.Ytfjcpghepkmbfaa
open Go.RowKit

theorem ret_pair {f : Func} {a : Act} {w : World} {Q : Ending → World → Prop} {s s2 : Nat} {t : TypeId} {ad : Addr} {v v2 : Value} (hr : f.results = #[.cell s t, .tmp s2]) (hs : a.tmps.getD s undef = .pointer (some ad)) (hl : (loadVar t ad).run Try.prog w = .ok v w) (h2 : a.tmps.getD s2 undef = v2) (hd : a.defers = [])
    (h : Q (.returned (.tuple #[v, v2])) w) : bodyPost Try.prog f Q .ret a w := by
  refine bodyPost_ret (v := .tuple #[v, v2]) ?_ hd h
  have h1 : a.tmps.getD s undef = .pointer (some ad) := hs
  simp [results, hr, -Array.getD_eq_getD_getElem?, h1, h2, asAddr, hl]
theorem ret_three {f : Func} {a : Act} {w : World} {Q : Ending → World → Prop} {s s2 s3 : Nat} {t : TypeId} {ad : Addr} {v v2 v3 : Value} (hr : f.results = #[.cell s t, .tmp s2, .tmp s3]) (hs : a.tmps.getD s undef = .pointer (some ad)) (hl : (loadVar t ad).run Try.prog w = .ok v w) (h2 : a.tmps.getD s2 undef = v2) (h3 : a.tmps.getD s3 undef = v3) (hd : a.defers = [])
    (h : Q (.returned (.tuple #[v, v2, v3])) w) : bodyPost Try.prog f Q .ret a w := by
  refine bodyPost_ret (v := .tuple #[v, v2, v3]) ?_ hd h
  have h1 : a.tmps.getD s undef = .pointer (some ad) := hs
  simp [results, hr, -Array.getD_eq_getD_getElem?, h1, h2, h3, asAddr, hl]
theorem ret_four {f : Func} {a : Act} {w : World} {Q : Ending → World → Prop} {s s2 s3 s4 : Nat} {t : TypeId} {ad : Addr} {v v2 v3 v4 : Value} (hr : f.results = #[.cell s t, .tmp s2, .tmp s3, .tmp s4]) (hs : a.tmps.getD s undef = .pointer (some ad)) (hl : (loadVar t ad).run Try.prog w = .ok v w) (h2 : a.tmps.getD s2 undef = v2) (h3 : a.tmps.getD s3 undef = v3) (h4 : a.tmps.getD s4 undef = v4) (hd : a.defers = [])
    (h : Q (.returned (.tuple #[v, v2, v3, v4])) w) : bodyPost Try.prog f Q .ret a w := by
  refine bodyPost_ret (v := .tuple #[v, v2, v3, v4]) ?_ hd h
  have h1 : a.tmps.getD s undef = .pointer (some ad) := hs
  simp [results, hr, -Array.getD_eq_getD_getElem?, h1, h2, h3, h4, asAddr, hl]
theorem res_put {w : World} {b : Nat} {p q x y : Value} {T : TypeId} (h : w.heap[b]? = some (.cells #[p, q] T (0, 0))) : ((w.setCell ⟨b, 0, none⟩ x).setCell ⟨b, 1, none⟩ y).heap[b]? = some (.cells #[x, y] T (0, 0)) := by
  have h1 : (w.setCell ⟨b, 0, none⟩ x).heap[b]? = some (.cells #[x, q] T (0, 0)) := (blk_set h 0 x).trans (by simp)
  exact (blk_set h1 1 y).trans (by simp)
theorem own_put {w : World} {B z : Nat} {v : Value} {n : Nat} {xs : List Value} {e : TypeId} (h : w.ownsRow B e z v n xs) (r o : Nat) (x : Value) (hr : r < B) : (w.setCell ⟨r, o, none⟩ x).ownsRow B e z v n xs := by
  refine ⟨h.1, ?_⟩
  rcases h.2 with hn | ⟨g, cap, cur, hv, hB, hh, hx⟩
  · exact .inl hn
  · exact .inr ⟨g, cap, cur, hv, hB, (Below.heap_setCell _ _ _ _ (by show ¬ g = r; omega)).trans hh, hx⟩
theorem cell_two {w : World} {b : Nat} {x y : Value} {T : TypeId} {fr : Nat × Nat} (h : w.heap[b]? = some (.cells #[x, y] T fr)) : w.cell? ⟨b, 0, none⟩ = some x ∧ w.cell? ⟨b, 1, none⟩ = some y :=
  ⟨cell_at (L := [x, y]) h 0 _ rfl, cell_at (L := [x, y]) h 1 _ rfl⟩
end Go.Proofs.Ytfjcpghepkmbfaa

/- What the document reads any bytes as: a request. -/
namespace Go.Proofs.Ytfjcpghepkmbfaa
open Go.RowKit

theorem rq_st {w : World} {b : Nat} {r : Rq} (h : RqAt w b r) (v : Int) : RqAt (w.setCell ⟨b, 1, none⟩ (.int .i64 v)) b { r with st := v } := (blk_set h 1 _).trans (by simp)
theorem rq_k {w : World} {b : Nat} {r : Rq} (h : RqAt w b r) (v : Int) : RqAt (w.setCell ⟨b, 2, none⟩ (.int .i64 v)) b { r with k := v } := (blk_set h 2 _).trans (by simp)
theorem rq_key {w : World} {b : Nat} {r : Rq} (h : RqAt w b r) (v : ByteArray) : RqAt (w.setCell ⟨b, 3, none⟩ (.string v)) b { r with key := v } := (blk_set h 3 _).trans (by simp)
theorem rq_b {w : World} {b : Nat} {r : Rq} (h : RqAt w b r) (v : Nat) : RqAt (w.setCell ⟨b, 4, none⟩ (.float .f64 v)) b { r with b := v } := (blk_set h 4 _).trans (by simp)
theorem rq_id {w : World} {b : Nat} {r : Rq} (h : RqAt w b r) (v : Int) : RqAt (w.setCell ⟨b, 5, none⟩ (.int .i64 v)) b { r with id := v } := (blk_set h 5 _).trans (by simp)
theorem load_rq (w : World) (b : Nat) (r : Rq) (h : RqAt w b r) : (loadVar 26 ⟨b, 0, none⟩).run Try.prog w = .ok (.agg #[.int .i64 r.c, .int .i64 r.st, .int .i64 r.k, .string r.key, .float .f64 r.b, .int .i64 r.id]) w := by
  obtain ⟨⟨z0, z1⟩, z2, z3, z4, z5⟩ := h.cells
  clear h
  go_simp
theorem rd_sizes (s : ByteArray) (sh : Bool) (n : Nat) : (rS s sh n).size ≤ s.size := by
  rw [rS]
  split
  · rw [← data_len, ext_data, List.length_drop, List.length_take, data_len]
    omega
  · exact Nat.le_refl _
end Go.Proofs.Ytfjcpghepkmbfaa

/- The document's: are two requests one, are their texts the same; results' texts; what is prepared, states. -/
namespace Go.Proofs.Ytfjcpghepkmbfaa
open Go.RowKit

theorem text_eq (x y : ByteArray) : (x.toList == y.toList) = decide (x = y) := by
  rw [ByteArray.toList_eq, ByteArray.toList_eq, Bool.eq_iff_iff]
  simp only [beq_iff_eq, decide_eq_true_eq]
  exact ⟨fun h => ByteArray.ext (Array.ext' h), fun h => by rw [h]⟩
/-- Two requests in two variables, one behind the other. -/
structure TwQ (w0 w : World) (x y : Rq) : Prop where
  one : RqAt w w0.heap.size x
  two : RqAt w (w0.heap.size + 1) y
  bel : Below w0.heap.size w0 w
theorem TwQ.keep {w0 w w' : World} {x y : Rq} (h : TwQ w0 w x y) (hb : Below w.heap.size w w') : TwQ w0 w' x y := ⟨h.one.keep hb, h.two.keep hb, h.bel.trans (hb.mono h.bel.size)⟩
theorem twq_new (w : World) (x y : Rq) : TwQ w ((w.alloc (.cells #[.int .i64 x.c, .int .i64 x.st, .int .i64 x.k, .string x.key, .float .f64 x.b, .int .i64 x.id] 26)).alloc (.cells #[.int .i64 y.c, .int .i64 y.st, .int .i64 y.k, .string y.key, .float .f64 y.b, .int .i64 y.id] 26)) x y :=
  ⟨(Below.heap_alloc _ _ _ (by simp)).trans (heap_alloc_last w _), snd_alloc w _ _, ((Below.refl _ _).alloc (Nat.le_refl _) _).alloc (by simp) _⟩
def sameB (x y : Rq) : Bool := (decide (rqE x = 0) && decide (rqE y = 0)) && decide (rqT x = rqT y)
set_option maxRecDepth 100000 in
set_option maxHeartbeats 6400000 in
theorem qwhole_any (x y : Rq) (w : World) : Calls Try.prog 22 #[.agg #[.int .i64 x.c, .int .i64 x.st, .int .i64 x.k, .string x.key, .float .f64 x.b, .int .i64 x.id], .agg #[.int .i64 y.c, .int .i64 y.st, .int .i64 y.k, .string y.key, .float .f64 y.b, .int .i64 y.id]] w fun e w' => e = .returned (.bool (wholeB x y)) ∧ Below w.heap.size w w' := by
  have H0 := hid (twq_new w x y)
  have HKB : Hid (∀ (b : Nat) (u : World), Calls Try.prog 51 #[.float .f64 b] u fun e w' => e = .returned (.int .u64 (canW b : Nat)) ∧ Below u.heap.size u w') := hid (fun b u => (kbits_any b u).mono fun e w' ⟨h1, h2⟩ => ⟨h1, by rw [h2]; exact Below.refl _ _⟩)
  obtain ⟨B, hB⟩ : ∃ B, wholeB x y = B := ⟨_, rfl⟩
  rw [hB]
  have HBe : Hid (B = (((((decide (x.c = y.c) && decide (x.st = y.st)) && decide (x.k = y.k)) && decide (x.key = y.key)) && decide (x.id = y.id)) && decide (canW x.b = canW y.b))) := hid hB.symm

  clear hB
  obtain ⟨W, eW⟩ : ∃ W, W = (w.alloc (.cells #[.int .i64 x.c, .int .i64 x.st, .int .i64 x.k, .string x.key, .float .f64 x.b, .int .i64 x.id] 26)).alloc (.cells #[.int .i64 y.c, .int .i64 y.st, .int .i64 y.k, .string y.key, .float .f64 y.b, .int .i64 y.id] 26) := ⟨_, rfl⟩
  rw [← eW] at H0
  have q0 : ∀ u : Cls W, u.1.cell? ⟨w.heap.size, 0, none⟩ = some (.int .i64 x.c) := fun u => (H0.out.keep u.2).one.cells.1.1
  have q1 : ∀ u : Cls W, u.1.cell? ⟨w.heap.size, 1, none⟩ = some (.int .i64 x.st) := fun u => (H0.out.keep u.2).one.cells.1.2
  have q2 : ∀ u : Cls W, u.1.cell? ⟨w.heap.size, 2, none⟩ = some (.int .i64 x.k) := fun u => (H0.out.keep u.2).one.cells.2.1
  have q3 : ∀ u : Cls W, u.1.cell? ⟨w.heap.size, 3, none⟩ = some (.string x.key) := fun u => (H0.out.keep u.2).one.cells.2.2.1
  have q4 : ∀ u : Cls W, u.1.cell? ⟨w.heap.size, 4, none⟩ = some (.float .f64 x.b) := fun u => (H0.out.keep u.2).one.cells.2.2.2.1
  have q5 : ∀ u : Cls W, u.1.cell? ⟨w.heap.size, 5, none⟩ = some (.int .i64 x.id) := fun u => (H0.out.keep u.2).one.cells.2.2.2.2
  have hks : ∀ (D : Bool), (x.key.toList == y.key.toList) = D → ∀ u : Cls W, (binOp .eql 9 (.string x.key) (.string y.key)).run Try.prog u.1 = .ok (.bool D) u.1 := fun D hD u => by rw [← hD]; go_simp
  have p0 : ∀ u : Cls W, u.1.cell? ⟨w.heap.size + 1, 0, none⟩ = some (.int .i64 y.c) := fun u => (H0.out.keep u.2).two.cells.1.1
  have p1 : ∀ u : Cls W, u.1.cell? ⟨w.heap.size + 1, 1, none⟩ = some (.int .i64 y.st) := fun u => (H0.out.keep u.2).two.cells.1.2
  have p2 : ∀ u : Cls W, u.1.cell? ⟨w.heap.size + 1, 2, none⟩ = some (.int .i64 y.k) := fun u => (H0.out.keep u.2).two.cells.2.1
  have p3 : ∀ u : Cls W, u.1.cell? ⟨w.heap.size + 1, 3, none⟩ = some (.string y.key) := fun u => (H0.out.keep u.2).two.cells.2.2.1
  have p4 : ∀ u : Cls W, u.1.cell? ⟨w.heap.size + 1, 4, none⟩ = some (.float .f64 y.b) := fun u => (H0.out.keep u.2).two.cells.2.2.2.1
  have p5 : ∀ u : Cls W, u.1.cell? ⟨w.heap.size + 1, 5, none⟩ = some (.int .i64 y.id) := fun u => (H0.out.keep u.2).two.cells.2.2.2.2
  by_cases h0 : x.c = y.c
  · have t0 : (x.c == y.c) = true := by simp [h0]
    have HH0 := hid h0
    clear h0
    by_cases h1 : x.st = y.st
    · have t1 : (x.st == y.st) = true := by simp [h1]
      have HH1 := hid h1
      clear h1
      by_cases h2 : x.k = y.k
      · have t2 : (x.k == y.k) = true := by simp [h2]
        have HH2 := hid h2
        clear h2
        by_cases h3 : x.key = y.key
        · have t3 : (x.key.toList == y.key.toList) = true := by simp [h3]
          have HH3 := hid h3
          clear h3
          have hktrue := hks true t3
          clear hks
          by_cases h4 : x.id = y.id
          · have t4 : (x.id == y.id) = true := by simp [h4]
            have HH4 := hid h4
            clear h4
            by_cases h5 : canW x.b = canW y.b
            · have t5 : (((canW x.b : Nat) : Int) == ((canW y.b : Nat) : Int)) = true := by simp [h5]
              have HH5 := hid h5
              clear h5
              go_enter Try.func22, Try.ntmps22
              go_wp2
              rw [← eW]
              clear eW
              haveI := Cls.ne W
              refine wp_region_cls W (by kernel_rfl) (by kernel_rfl) ?_
              repeat (go_big_quiet_step ((first | (go_at_call 51; exact Cls.of _ (fun u _ => HKB.out _ u)))))
              rintro w' ⟨u, rfl⟩
              go_wp2
              go_ret
              exact ⟨ret_bool (by rw [HBe.out]; simp [HH0.out, HH1.out, HH2.out, HH3.out, HH4.out, HH5.out]), H0.out.bel.trans (u.2.mono H0.out.bel.size)⟩
            · have t5 : (((canW x.b : Nat) : Int) == ((canW y.b : Nat) : Int)) = false := by simp; omega
              have HH5 := hid h5
              clear h5
              go_enter Try.func22, Try.ntmps22
              go_wp2
              rw [← eW]
              clear eW
              haveI := Cls.ne W
              refine wp_region_cls W (by kernel_rfl) (by kernel_rfl) ?_
              repeat (go_big_quiet_step ((first | (go_at_call 51; exact Cls.of _ (fun u _ => HKB.out _ u)))))
              rintro w' ⟨u, rfl⟩
              go_wp2
              go_ret
              exact ⟨ret_bool (by rw [HBe.out]; simp [HH5.out]), H0.out.bel.trans (u.2.mono H0.out.bel.size)⟩
          · have t4 : (x.id == y.id) = false := by simpa using h4
            have HH4 := hid h4
            clear h4
            go_enter Try.func22, Try.ntmps22
            go_wp2
            rw [← eW]
            clear eW
            haveI := Cls.ne W
            refine wp_region_cls W (by kernel_rfl) (by kernel_rfl) ?_
            repeat (go_big_quiet_step ((first | (go_at_call 51; exact Cls.of _ (fun u _ => HKB.out _ u)))))
            rintro w' ⟨u, rfl⟩
            go_wp2
            go_ret
            exact ⟨ret_bool (by rw [HBe.out]; simp [HH4.out]), H0.out.bel.trans (u.2.mono H0.out.bel.size)⟩
        · have t3 : (x.key.toList == y.key.toList) = false := by rw [text_eq]; exact decide_eq_false h3
          have HH3 := hid h3
          clear h3
          have hkfalse := hks false t3
          clear hks
          go_enter Try.func22, Try.ntmps22
          go_wp2
          rw [← eW]
          clear eW
          haveI := Cls.ne W
          refine wp_region_cls W (by kernel_rfl) (by kernel_rfl) ?_
          repeat (go_big_quiet_step ((first | (go_at_call 51; exact Cls.of _ (fun u _ => HKB.out _ u)))))
          rintro w' ⟨u, rfl⟩
          go_wp2
          go_ret
          exact ⟨ret_bool (by rw [HBe.out]; simp [HH3.out]), H0.out.bel.trans (u.2.mono H0.out.bel.size)⟩
      · have t2 : (x.k == y.k) = false := by simpa using h2
        have HH2 := hid h2
        clear h2
        clear hks
        go_enter Try.func22, Try.ntmps22
        go_wp2
        rw [← eW]
        clear eW
        haveI := Cls.ne W
        refine wp_region_cls W (by kernel_rfl) (by kernel_rfl) ?_
        repeat (go_big_quiet_step ((first | (go_at_call 51; exact Cls.of _ (fun u _ => HKB.out _ u)))))
        rintro w' ⟨u, rfl⟩
        go_wp2
        go_ret
        exact ⟨ret_bool (by rw [HBe.out]; simp [HH2.out]), H0.out.bel.trans (u.2.mono H0.out.bel.size)⟩
    · have t1 : (x.st == y.st) = false := by simpa using h1
      have HH1 := hid h1
      clear h1
      clear hks
      go_enter Try.func22, Try.ntmps22
      go_wp2
      rw [← eW]
      clear eW
      haveI := Cls.ne W
      refine wp_region_cls W (by kernel_rfl) (by kernel_rfl) ?_
      repeat (go_big_quiet_step ((first | (go_at_call 51; exact Cls.of _ (fun u _ => HKB.out _ u)))))
      rintro w' ⟨u, rfl⟩
      go_wp2
      go_ret
      exact ⟨ret_bool (by rw [HBe.out]; simp [HH1.out]), H0.out.bel.trans (u.2.mono H0.out.bel.size)⟩
  · have t0 : (x.c == y.c) = false := by simpa using h0
    have HH0 := hid h0
    clear h0
    clear hks
    go_enter Try.func22, Try.ntmps22
    go_wp2
    rw [← eW]
    clear eW
    haveI := Cls.ne W
    refine wp_region_cls W (by kernel_rfl) (by kernel_rfl) ?_
    repeat (go_big_quiet_step ((first | (go_at_call 51; exact Cls.of _ (fun u _ => HKB.out _ u)))))
    rintro w' ⟨u, rfl⟩
    go_wp2
    go_ret
    exact ⟨ret_bool (by rw [HBe.out]; simp [HH0.out]), H0.out.bel.trans (u.2.mono H0.out.bel.size)⟩
end Go.Proofs.Ytfjcpghepkmbfaa

/- The document's: what any bytes are read as, as a result; what is prepared, a state. -/
namespace Go.Proofs.Ytfjcpghepkmbfaa
open Go.RowKit

theorem load_rs (w : World) (b : Nat) (c : Int) (f : Nat) (h : RsAt w b c f) : (loadVar 28 ⟨b, 0, none⟩).run Try.prog w = .ok (.agg #[.int .i64 c, .float .f64 f]) w := by
  obtain ⟨z0, z1⟩ := h.cells
  clear h
  go_simp
theorem adm_zero' {lim : Int} {n : Nat} {er : Int} {r : Bool} {size : Int} (h : adm lim n er r size = 0) : er = 0 ∧ r = true := by
  unfold adm at h
  split at h
  · next h1 =>
    split at h
    · next h2 => exact ⟨h1, h2⟩
    · cases h
  · next h1 => exact absurd h h1
theorem add_texts (a b : ByteArray) : (a ++ b).data.toList = a.data.toList ++ b.data.toList := by simp [ByteArray.data_append]
end Go.Proofs.Ytfjcpghepkmbfaa

/- The document's: are two results one; what is prepared. -/
namespace Go.Proofs.Ytfjcpghepkmbfaa
open Go.RowKit

set_option maxRecDepth 100000 in
set_option maxHeartbeats 6400000 in
theorem qsameResult_any (c : Int) (f : Nat) (c' : Int) (f' : Nat) (w : World) : Calls Try.prog 23 #[.agg #[.int .i64 c, .float .f64 f], .agg #[.int .i64 c', .float .f64 f']] w fun e w' => e = .returned (.bool (sameS c f c' f')) ∧ Below w.heap.size w w' := by
  obtain ⟨W, eW⟩ : ∃ W, W = (w.alloc (.cells #[.int .i64 c, .float .f64 f] 28)).alloc (.cells #[.int .i64 c', .float .f64 f'] 28) := ⟨_, rfl⟩
  have H0 : Hid (RsAt W w.heap.size c f ∧ RsAt W (w.heap.size + 1) c' f' ∧ Below w.heap.size w W) := hid (by
    rw [eW]
    exact ⟨(Below.heap_alloc _ _ _ (by simp)).trans (heap_alloc_last w _), snd_alloc w _ _, ((Below.refl _ _).alloc (Nat.le_refl _) _).alloc (by simp) _⟩)
  have HKB : Hid (∀ (b : Nat) (u : World), Calls Try.prog 51 #[.float .f64 b] u fun e w' => e = .returned (.int .u64 (canW b : Nat)) ∧ Below u.heap.size u w') := hid (fun b u => (kbits_any b u).mono fun e w' ⟨h1, h2⟩ => ⟨h1, by rw [h2]; exact Below.refl _ _⟩)
  obtain ⟨B, hB⟩ : ∃ B, sameS c f c' f' = B := ⟨_, rfl⟩
  rw [hB]
  have HBe : Hid (B = (decide (c = c') && decide (canW f = canW f'))) := hid hB.symm
  clear hB
  have q0 : ∀ u : Cls W, u.1.cell? ⟨w.heap.size, 0, none⟩ = some (.int .i64 c) := fun u => (H0.out.1.keep u.2).cells.1
  have q1 : ∀ u : Cls W, u.1.cell? ⟨w.heap.size, 1, none⟩ = some (.float .f64 f) := fun u => (H0.out.1.keep u.2).cells.2
  have p0 : ∀ u : Cls W, u.1.cell? ⟨w.heap.size + 1, 0, none⟩ = some (.int .i64 c') := fun u => (H0.out.2.1.keep u.2).cells.1
  have p1 : ∀ u : Cls W, u.1.cell? ⟨w.heap.size + 1, 1, none⟩ = some (.float .f64 f') := fun u => (H0.out.2.1.keep u.2).cells.2
  by_cases h0 : c = c'
  · have t0 : (c == c') = true := by simp [h0]
    have HH0 := hid h0
    clear h0
    by_cases h1 : canW f = canW f'
    · have t1 : (((canW f : Nat) : Int) == ((canW f' : Nat) : Int)) = true := by simp [h1]
      have HH1 := hid h1
      clear h1
      go_enter Try.func23, Try.ntmps23
      go_wp2
      rw [← eW]
      clear eW
      haveI := Cls.ne W
      refine wp_region_cls W (by kernel_rfl) (by kernel_rfl) ?_
      repeat (go_big_quiet_step ((first | (go_at_call 51; exact Cls.of _ (fun u _ => HKB.out _ u)))))
      rintro w' ⟨u, rfl⟩
      go_wp2
      go_ret
      exact ⟨ret_bool (by rw [HBe.out]; simp [HH0.out, HH1.out]), H0.out.2.2.trans (u.2.mono H0.out.2.2.size)⟩
    · have t1 : (((canW f : Nat) : Int) == ((canW f' : Nat) : Int)) = false := by simp; omega
      have HH1 := hid h1
      clear h1
      go_enter Try.func23, Try.ntmps23
      go_wp2
      rw [← eW]
      clear eW
      haveI := Cls.ne W
      refine wp_region_cls W (by kernel_rfl) (by kernel_rfl) ?_
      repeat (go_big_quiet_step ((first | (go_at_call 51; exact Cls.of _ (fun u _ => HKB.out _ u)))))
      rintro w' ⟨u, rfl⟩
      go_wp2
      go_ret
      exact ⟨ret_bool (by rw [HBe.out]; simp [HH1.out]), H0.out.2.2.trans (u.2.mono H0.out.2.2.size)⟩
  · have t0 : (c == c') = false := by simpa using h0
    have HH0 := hid h0
    clear h0
    go_enter Try.func23, Try.ntmps23
    go_wp2
    rw [← eW]
    clear eW
    haveI := Cls.ne W
    refine wp_region_cls W (by kernel_rfl) (by kernel_rfl) ?_
    repeat (go_big_quiet_step ((first | (go_at_call 51; exact Cls.of _ (fun u _ => HKB.out _ u)))))
    rintro w' ⟨u, rfl⟩
    go_wp2
    go_ret
    exact ⟨ret_bool (by rw [HBe.out]; simp [HH0.out]), H0.out.2.2.trans (u.2.mono H0.out.2.2.size)⟩
/-- The bytes ahead of a request that is prepared. -/
theorem pr_head {e v s : Int} (h : spB e v s = true) : ∃ E V S : Nat, e = (E : Int) ∧ v = (V : Int) ∧ s = (S : Int) ∧ E < 256 ^ 4 ∧ V < 256 ^ 4 ∧ S < 256 ^ 4 := by
  rw [spB, Bool.and_eq_true_iff, Bool.and_eq_true_iff] at h
  have h1 := inR4 h.1.1
  have h2 := inR4 h.1.2
  have h3 := inR4 h.2
  exact ⟨e.toNat, v.toNat, s.toNat, by omega, by omega, by omega, by omega, by omega, by omega⟩
theorem rqT_size (r : Rq) : (rqT r).size ≤ 34 := by
  unfold rqT
  split
  · decide
  · split
    · next h =>
      have h1 := (right_fields h).2.2.2.1
      have h2 := rqL_len r
      show (rqL r).toArray.size ≤ 34
      simp
      omega
    · decide
end Go.Proofs.Ytfjcpghepkmbfaa

/- Stores into blocks that are known whole, as one step of a walk each. -/
namespace Go.Proofs.Ytfjcpghepkmbfaa
open Go.RowKit

/-- A list of cells, these put from o on. -/
def setAt : List Value → Nat → List Value → List Value
  | L, _, [] => L
  | L, o, v :: vs => setAt (L.set o v) (o + 1) vs
theorem blk_cells {b : Nat} {T : TypeId} : ∀ (vs : List Value) (o : Nat) (L : List Value) (w : World), w.heap[b]? = some (.cells L.toArray T (0, 0)) → (w.setCells b o vs).heap[b]? = some (.cells (setAt L o vs).toArray T (0, 0))
  | [], _, _, _, h => h
  | v :: vs, o, L, w, h => blk_cells vs (o + 1) (L.set o v) (w.setCell ⟨b, o, none⟩ v) (by have := blk_set h o v; simpa using this)
theorem blk_there {w : World} {b : Nat} {T : TypeId} {L : List Value} (h : w.heap[b]? = some (.cells L.toArray T (0, 0))) (o n : Nat) (hn : o + n ≤ L.length) : w.there b o n := fun j hj => by
  have hl : o + j < L.length := by omega
  exact ⟨by rw [cell_at h (o + j) _ (List.getElem?_eq_getElem hl)]; rfl, free_at h _⟩
section
variable {o : Oper} {a : Act} {w : World} {K : Act → World → Prop} {Q : Exit → Act → World → Prop} {ops : Array Oper} {rest : List Oper}
theorem owp_store_blk (T : TypeId) (p x : Operand) (ho : o.op = .store T p x) (b off : Nat) (hp : a.eval p = .pointer (some ⟨b, off, none⟩)) (cells : Array Value) (hx : a.eval x = .agg cells) (L : List Value) (TB : TypeId) (hL : w.heap[b]? = some (.cells L.toArray TB (0, 0))) (hn : off + cells.size ≤ L.length)
    (hi : (Try.prog.info? T).map (·.size) = some cells.size) (h1 : cells.all (·.oneCell') = true) (h : ∀ w', Hid (w'.heap[b]? = some (.cells (setAt L off cells.toList).toArray TB (0, 0)) ∧ One b w w') → K (a.put o.dst undef) w') : o.wp Try.prog a w K Q :=
  wp_store_mid (P := Try.prog) T p x ho b off cells hp hx (blk_there hL off _ hn) hi h1 (h _ ⟨blk_cells cells.toList off L w hL, one_cells b _ off w⟩)
theorem wl_store_blk (hgd : o.guard = none) (T : TypeId) (p x : Operand) (ho : o.op = .store T p x) (b off : Nat) (hp : a.eval p = .pointer (some ⟨b, off, none⟩)) (cells : Array Value) (hx : a.eval x = .agg cells) (L : List Value) (TB : TypeId) (hL : w.heap[b]? = some (.cells L.toArray TB (0, 0))) (hn : off + cells.size ≤ L.length)
    (hi : (Try.prog.info? T).map (·.size) = some cells.size) (h1 : cells.all (·.oneCell') = true) (h : ∀ w', Hid (w'.heap[b]? = some (.cells (setAt L off cells.toList).toArray TB (0, 0)) ∧ One b w w') → wpList Try.prog ops Q rest (a.put o.dst undef) w') : wpList Try.prog ops Q (o :: rest) a w :=
  wpList_plain hgd fun _ hK => owp_store_blk T p x ho b off hp cells hx L TB hL hn hi h1 (fun w' hw => hK _ _ (h w' hw))
end
end Go.Proofs.Ytfjcpghepkmbfaa

/- Rows of one's own whose elements lead to data of any depth elsewhere. No walk here. -/
namespace Go.Proofs.Ytfjcpghepkmbfaa
open Go.RowKit

/-- The slice v holds the elements es in a row of its own (from block B on); what they lead to is read through blocks of F, and the row is none of them. -/
structure OwnD (T : TypeId) (sz B : Nat) (F : Nat → Prop) (w : World) (v : Value) (es : List (List Dat)) : Prop where
  own : ∃ cs : List Value, w.ownsRow B T sz v es.length cs ∧ ∀ (j : Nat) (e : List Dat), es[j]? = some e → e.length = sz ∧ ∀ (q : Nat) (d : Dat), e[q]? = some d → ∃ u, cs[j * sz + q]? = some u ∧ Reads F w u d
  sep : ∀ g, v.ownBlock = some g → ¬ F g
theorem OwnD.nil (T : TypeId) (sz B : Nat) (F : Nat → Prop) (w : World) : OwnD T sz B F w (.slice none 0 0) [] :=
  ⟨⟨[], ⟨by simp, .inl ⟨rfl, rfl⟩⟩, fun j e h => by simp at h⟩, fun g h => by simp [Value.ownBlock] at h⟩
theorem OwnD.form {T : TypeId} {sz B : Nat} {F : Nat → Prop} {w : World} {v : Value} {es : List (List Dat)} (h : OwnD T sz B F w v es) : ∃ ad cap, v = .slice ad es.length cap := by
  obtain ⟨cs, ho, _⟩ := h.own
  rcases ho.2 with ⟨hv, h0⟩ | ⟨g, cap, cur, hv, _⟩
  · exact ⟨none, 0, by rw [hv, h0]⟩
  · exact ⟨_, cap, hv⟩
theorem OwnD.lt {T : TypeId} {sz B : Nat} {F : Nat → Prop} {w : World} {v : Value} {es : List (List Dat)} (h : OwnD T sz B F w v es) : ∀ g, v.ownBlock = some g → B ≤ g ∧ g < w.heap.size := fun g hg => by
  obtain ⟨cs, ho, _⟩ := h.own
  exact ho.lt g hg
/-- It stays while the row and what it leads to stay. -/
theorem OwnD.keep {T : TypeId} {sz B : Nat} {F : Nat → Prop} {w w' : World} {v : Value} {es : List (List Dat)} (h : OwnD T sz B F w v es) (hs : w.heap.size ≤ w'.heap.size) (hF : ∀ k, k < w.heap.size → F k → w'.heap[k]? = w.heap[k]?) (hr : ∀ g, v.ownBlock = some g → w'.heap[g]? = w.heap[g]?) : OwnD T sz B F w' v es := by
  obtain ⟨cs, ho, hc⟩ := h.own
  refine ⟨⟨cs, ⟨ho.1, ?_⟩, fun j e he => ⟨(hc j e he).1, fun q d hd => ?_⟩⟩, h.sep⟩
  · rcases ho.2 with hx | ⟨g, cap, cur, hv, hg, hh, hr2⟩
    · exact .inl hx
    · exact .inr ⟨g, cap, cur, hv, hg, (hr g (by rw [hv]; rfl)).trans hh, hr2⟩
  · obtain ⟨u, h1, h2⟩ := (hc j e he).2 q d hd
    exact ⟨u, h1, h2.keep hs hF⟩
theorem OwnD.under {T : TypeId} {sz B C : Nat} {F : Nat → Prop} {w w' : World} {v : Value} {es : List (List Dat)} (h : OwnD T sz B F w v es) (hb : Below C w w') (hC : w.heap.size ≤ C) : OwnD T sz B F w' v es :=
  h.keep hb.size (fun k hk _ => hb.block k (Nat.lt_of_lt_of_le hk hC)) (fun g hg => hb.block g (Nat.lt_of_lt_of_le (h.lt g hg).2 hC))
theorem ownsRow_one {w : World} {B sz n : Nat} {T : TypeId} {v : Value} {cs cs' : List Value} (h : w.ownsRow B T sz v n cs) (h' : w.ownsRow B T sz v n cs') : cs = cs' := by
  rcases h.2 with ⟨_, h0⟩ | ⟨g, cap, cur, hv, _, hh, _, _, _, ht⟩
  · have h1 := h.1
    have h2 := h'.1
    rw [h0, Nat.zero_mul] at h1 h2
    rw [List.eq_nil_of_length_eq_zero h1, List.eq_nil_of_length_eq_zero h2]
  · rcases h'.2 with ⟨hv', _⟩ | ⟨g', cap', cur', hv', _, hh', _, _, _, ht'⟩
    · rw [hv] at hv'; cases hv'
    · rw [hv] at hv'
      cases hv'
      rw [hh] at hh'
      cases hh'
      rw [← ht, ← ht']
/-- One more element behind the others. -/
theorem OwnD.grow {T : TypeId} {sz B : Nat} {F F' : Nat → Prop} {w w2 : World} {v v2 : Value} {es : List (List Dat)} {e : List Dat} {cs news : List Value} (h : OwnD T sz B F w v es) (ho : w.ownsRow B T sz v es.length cs)
    (he : e.length = sz) (hnew : ∀ (q : Nat) (d : Dat), e[q]? = some d → ∃ u, news[q]? = some u ∧ Reads F' w2 u d)
    (h2 : w2.ownsRow B T sz v2 (es.length + 1) (cs ++ news)) (hg : w.grownBy w2 v.ownBlock) (hF : ∀ k, k < w.heap.size → F k → F' k) (hsep : ∀ g, v2.ownBlock = some g → ¬ F' g) : OwnD T sz B F' w2 v2 (es ++ [e]) := by
  obtain ⟨cs', ho', hc⟩ := h.own
  obtain rfl := ownsRow_one ho ho'
  refine ⟨⟨cs ++ news, by rw [List.length_append]; exact h2, fun j x hx => ?_⟩, hsep⟩
  have hl : cs.length = es.length * sz := ho'.1
  by_cases hj : j < es.length
  · rw [List.getElem?_append_left hj] at hx
    obtain ⟨h1, h3⟩ := hc j x hx
    refine ⟨h1, fun q d hd => ?_⟩
    obtain ⟨u, h4, h5⟩ := h3 q d hd
    exact ⟨u, by rw [List.getElem?_append_left (List.getElem?_eq_some_iff.1 h4).1]; exact h4, h5.move hg.size (fun k hk hFk => ⟨hg.block k hk (fun e => h.sep k e.symm hFk), hF k hk hFk⟩)⟩
  · have hj2 : j = es.length := by
      have := (List.getElem?_eq_some_iff.1 hx).1
      simp at this
      omega
    subst hj2
    simp at hx
    subst hx
    refine ⟨he, fun q d hd => ?_⟩
    obtain ⟨u, h4, h5⟩ := hnew q d hd
    refine ⟨u, ?_, h5⟩
    rw [List.getElem?_append_right (by omega), hl, Nat.add_sub_cancel_left]
    exact h4
/-- What such a slice reads as. -/
theorem OwnD.reads {T : TypeId} {sz B : Nat} {F : Nat → Prop} {w : World} {v : Value} {es : List (List Dat)} (h : OwnD T sz B F w v es) : Reads (fun k => F k ∨ v.ownBlock = some k) w v (.l sz es) := by
  obtain ⟨cs, ho, hc⟩ := h.own
  cases es with
  | nil =>
    obtain ⟨ad, cap, hv⟩ := h.form
    rw [hv]
    exact .nil ad cap sz
  | cons e0 es =>
    rcases ho.2 with ⟨_, h0⟩ | ⟨g, cap, cur, hv, hB, hh, hnc, hcp, hcs, ht⟩
    · simp at h0
    · subst hv
      refine .l g 0 cap sz (e0 :: es) (fun j q => cs.getD (j * sz + q) undef) (.inr rfl) (lt_of_blk hh) (fun j e he => (hc j e he).1) (fun j e q d he hd => ?_) (fun j e q d he hd => ?_)
      · obtain ⟨u, h1, _⟩ := (hc j e he).2 q d hd
        have := ho.cells (g := g) rfl _ _ h1
        rw [Addr.add_lit] at this
        rw [List.getD_eq_getElem?_getD, h1, Nat.add_assoc]
        exact this
      · obtain ⟨u, h1, h2⟩ := (hc j e he).2 q d hd
        rw [List.getD_eq_getElem?_getD, h1]
        exact h2.mono (fun k _ hk => .inl hk)
end Go.Proofs.Ytfjcpghepkmbfaa
