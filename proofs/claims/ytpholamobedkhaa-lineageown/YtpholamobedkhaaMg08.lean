/- Texts laid together: TqB TqC TrB TqD CoS CoT CoM CoU CoN. -/
import Derived.Test.YtpholamobedkhaaMg07
import Derived.Shelf.Slices.SearchI
import Derived.Shelf.Slices.Delete
import Derived.Shelf.Spec.SlicesInsert
import Derived.Lib.RowBridge
import Derived.Laws.CopyOwn
import Derived.Deep.QuietTactic
/- The program's copies of a configuration and of a link. -/
namespace Go.Proofs.Ytpholamobedkhaa
open Go.RowKit

theorem NewI.far_keep {B : Nat} {w w' : World} {ad : Option Addr} {l : List Int} (h : NewI B w ad l) (hs : w.heap.size ≤ w'.heap.size) (hb : ∀ x, ad = some x → w'.heap[x.block]? = w.heap[x.block]?) : NewI B w' ad l :=
  ⟨ints_far h.ints hs hb, fun x hx => ⟨(h.far x hx).1, (h.far x hx).2.keep (hb x hx)⟩⟩
theorem NewT.far_keep {B : Nat} {w w' : World} {ad : Option Addr} {l : List (Int × ByteArray)} (h : NewT B w ad l) (hs : w.heap.size ≤ w'.heap.size) (hb : ∀ x, ad = some x → w'.heap[x.block]? = w.heap[x.block]?) : NewT B w' ad l :=
  ⟨pairs_far h.pairs hs hb, fun x hx => ⟨(h.far x hx).1, (h.far x hx).2.keep (hb x hx)⟩⟩
theorem NewI.low {B C : Nat} {w : World} {ad : Option Addr} {l : List Int} (h : NewI B w ad l) (hC : C ≤ B) : NewI C w ad l := ⟨h.ints, fun x hx => ⟨Nat.le_trans hC (h.far x hx).1, (h.far x hx).2⟩⟩
theorem NewT.low {B C : Nat} {w : World} {ad : Option Addr} {l : List (Int × ByteArray)} (h : NewT B w ad l) (hC : C ≤ B) : NewT C w ad l := ⟨h.pairs, fun x hx => ⟨Nat.le_trans hC (h.far x hx).1, (h.far x hx).2⟩⟩
theorem res_put2 {w : World} {b : Nat} {p q x0 x1 : Value} {T : TypeId} (h : w.heap[b]? = some (.cells #[p, q] T (0, 0))) : ((w.setCell ⟨b, 0, none⟩ x0).setCell ⟨b, 1, none⟩ x1).heap[b]? = some (.cells #[x0, x1] T (0, 0)) := by
  have h1 : (w.setCell ⟨b, 0, none⟩ x0).heap[b]? = some (.cells #[x0, q] T (0, 0)) := (blk_set h 0 x0).trans (by simp)
  exact (blk_set h1 1 x1).trans (by simp)
/-- A configuration in a variable. -/
def CfAt (w : World) (b : Nat) (e : Int) (vm : Value) : Prop := w.heap[b]? = some (.cells #[.int .i64 e, vm] 24 (0, 0))
theorem CfAt.cells {w : World} {b : Nat} {e : Int} {vm : Value} (h : CfAt w b e vm) : w.cell? ⟨b, 0, none⟩ = some (.int .i64 e) ∧ w.cell? ⟨b, 1, none⟩ = some vm := cell_two h
theorem CfAt.keep {w w' : World} {b : Nat} {e : Int} {vm : Value} (h : CfAt w b e vm) (hb : Below w.heap.size w w') : CfAt w' b e vm := (hb.block b (lt_of_blk h)).trans h
/-- While a configuration is copied. -/
structure CcSt (w0 w : World) (e : Int) (vm : Value) : Prop where
  cf : CfAt w w0.heap.size e vm
  res : w.heap[w0.heap.size + 1]? = some (.cells #[.int .i64 0, .slice none 0 0] 24 (0, 0))
  bel : Below w0.heap.size w0 w
theorem CcSt.keep {w0 w w' : World} {e : Int} {vm : Value} (h : CcSt w0 w e vm) (hb : Below w.heap.size w w') : CcSt w0 w' e vm :=
  ⟨h.cf.keep hb, (hb.block _ (lt_of_blk h.res)).trans h.res, h.bel.trans (hb.mono h.bel.size)⟩
set_option maxRecDepth 100000 in
set_option maxHeartbeats 3200000 in
theorem lcopyConf_any (e : Int) (a : Option Addr) (n cap : Nat) (l : List Int) (hn : l.length = n) (hm : n * 8 ≤ 140737488355328) (w : World) (hI : IntsIn w a l) :
    Calls Try.prog 33 #[.agg #[.int .i64 e, .slice a n cap]] w fun r w' => ∃ a1 c1, r = .returned (.agg #[.int .i64 e, .slice a1 n c1]) ∧ NewI w.heap.size w' a1 l ∧ Below w.heap.size w w' := by
  have H0 : Hid (CcSt w ((w.alloc (.cells #[.int .i64 e, .slice a n cap] 24)).alloc (.cells #[.int .i64 0, .slice none 0 0] 24)) e (.slice a n cap)) := hid
    ⟨(Below.heap_alloc _ _ _ (by simp)).trans (heap_alloc_last w _), snd_alloc w _ _, ((Below.refl _ _).alloc (Nat.le_refl _) _).alloc (by simp) _⟩
  have HD : Hid (∀ u : World, Below w.heap.size w u → IntsIn u a l) := hid (fun u hu => hI.keep hu (Nat.le_refl _))
  have HL := hid (And.intro hn hm)
  clear hI hn hm
  go_enter Try.func33, Try.ntmps33
  go_wp2
  obtain ⟨w1, ew⟩ : ∃ w1, w1 = (w.alloc (.cells #[.int .i64 e, .slice a n cap] 24)).alloc (.cells #[.int .i64 0, .slice none 0 0] 24) := ⟨_, rfl⟩
  rw [← ew] at H0 ⊢
  clear ew
  have H1 : Hid (CcSt w w1.drew e (.slice a n cap)) := hid (H0.out.keep (Below.refl _ _).drew)
  have HS := hid H1.out.cf
  refine wp_region_held (S := fun ww => CfAt ww w.heap.size e (.slice a n cap)) (by kernel_rfl) ?_
  try (change wpAnyH _ _ _ _ _ _ _ _ (World.drew _))
  refine wpAnyH_take (i := 0) (v := ?v1) rfl (by kernel_rfl) (by kernel_rfl) (by kernel_rfl) (fun _ _ _ h => h) (Or.inl ⟨by rfl, ?hy1⟩) HS.out ?rest1
  case hy1 => (intro ww _; go_simp; try with_reducible rfl)
  go_simp
  refine wpAnyH_take (i := 1) (v := ?v2) rfl (by kernel_rfl) (by kernel_rfl) (by kernel_rfl) (fun _ _ _ h => h) (Or.inl ⟨by rfl, ?hy2⟩) HS.out ?rest2
  case hy2 => (intro ww hS; obtain ⟨y0, y1⟩ := hS.cells; go_simp; try with_reducible rfl)
  go_simp
  refine wpAnyH_take (i := 2) (v := ?v3) rfl (by kernel_rfl) (by kernel_rfl) (by kernel_rfl) (fun _ _ _ h => h) (Or.inl ⟨by rfl, ?hy3⟩) HS.out ?rest3
  case hy3 => (intro ww _; go_simp; try with_reducible rfl)
  go_simp
  refine wpAnyH_take (i := 3) (v := ?v4) rfl (by kernel_rfl) (by kernel_rfl) (by kernel_rfl) (fun _ _ _ h => h) (Or.inl ⟨by rfl, ?hy4⟩) HS.out ?rest4
  case hy4 => (intro ww hS; obtain ⟨y0, y1⟩ := hS.cells; go_simp; try with_reducible rfl)
  go_simp
  refine wpAnyH_all (rs := [4]) (by kernel_rfl) (by simp) ?_
  intro i hi
  obtain rfl := List.mem_singleton.1 hi
  clear hi
  refine wpOp_k rfl (by rfl) (fun K hK => ?_)
  go_simp
  refine (cloneInts_any a n cap l HL.out.1 HL.out.2 _ (HD.out _ H1.out.bel)).mono ?_
  rintro r w2 ⟨a1, c1, rfl, hN2, hb2⟩
  have H2 := hid (And.intro (H1.out.keep hb2) (And.intro hN2 hb2))
  clear hN2 hb2
  refine hK _ _ ⟨H2.out.1.cf, ?_⟩
  clear hK K
  go_simp
  refine wpAnyH_take (i := 5) (v := ?v5) rfl (by kernel_rfl) (by kernel_rfl) (by kernel_rfl) (fun _ _ _ h => h) (Or.inl ⟨by rfl, ?hy5⟩) H2.out.1.cf ?rest5
  case hy5 => (intro ww _; go_simp; try with_reducible rfl)
  go_simp
  refine wpAnyH_all (rs := [6]) (by kernel_rfl) (by simp) ?_
  intro i hi
  obtain rfl := List.mem_singleton.1 hi
  clear hi
  refine wpOp_k rfl (by rfl) (fun K hK => ?_)
  have r0 := (cell_two H2.out.1.res).1
  have r1 := (cell_two H2.out.1.res).2
  have f0 := free_at H2.out.1.res 0
  have f1 := free_at H2.out.1.res 1
  go_simp
  refine hK _ _ ⟨?_, ?_⟩
  · refine (Below.heap_setCell _ _ _ _ ?_).trans ((Below.heap_setCell _ _ _ _ ?_).trans H2.out.1.cf) <;> simp
  clear hK K r0 r1 f0 f1
  go_simp
  refine wpAnyH_done (by kernel_rfl) ?_ _
  go_simp
  go_wp2
  refine ret_one (s := 2) (ad := ⟨w.heap.size + 1, 0, none⟩) rfl rfl (load_conf _ _ (.int .i64 e) (.slice a1 n c1) (cell_two (res_put2 H2.out.1.res)).1 (cell_two (res_put2 H2.out.1.res)).2) rfl ?_
  have hsz : w.heap.size + 1 < w1.drew.heap.size := lt_of_blk H1.out.res
  refine ⟨a1, c1, rfl, (H2.out.2.1.low (by omega)).far_keep (by simp [World.setCell]) (fun x hx => ?_), (H2.out.1.bel.setCell (p := ⟨w.heap.size + 1, 0, none⟩) (Nat.le_succ _) _).setCell (p := ⟨w.heap.size + 1, 1, none⟩) (Nat.le_succ _) _⟩
  have h1 := (H2.out.2.1.far x hx).1
  refine (Below.heap_setCell _ _ _ _ ?_).trans (Below.heap_setCell _ _ _ _ ?_) <;> (show x.block ≠ w.heap.size + 1; omega)
set_option maxRecDepth 100000 in
set_option maxHeartbeats 3200000 in
theorem lcopyLink_any (e : Int) (a : Option Addr) (n cap : Nat) (l : List Int) (hn : l.length = n) (hm : n * 8 ≤ 140737488355328) (b : Option Addr) (m cp : Nat) (ss : List (Int × ByteArray)) (hsn : ss.length = m) (hsm : m * 24 ≤ 140737488355328) (w : World) (hI : IntsIn w a l) (hP : PairsIn w b ss) :
    Calls Try.prog 43 #[.agg #[.int .i64 e, .slice a n cap, .slice b m cp]] w fun r w' => ∃ a1 c1 a2 c2, r = .returned (.agg #[.int .i64 e, .slice a1 n c1, .slice a2 m c2]) ∧ NewI w.heap.size w' a1 l ∧ NewT w.heap.size w' a2 ss ∧ Below w.heap.size w w' := by
  have H0 : Hid (CpSt w ((w.alloc (.cells #[.int .i64 e, .slice a n cap, .slice b m cp] 27)).alloc (.cells #[.int .i64 0, .slice none 0 0, .slice none 0 0] 27)) e (.slice a n cap) (.slice b m cp)) := hid
    ⟨(Below.heap_alloc _ _ _ (by simp)).trans (heap_alloc_last w _), snd_alloc w _ _, ((Below.refl _ _).alloc (Nat.le_refl _) _).alloc (by simp) _⟩
  have HD : Hid (∀ u : World, Below w.heap.size w u → IntsIn u a l ∧ PairsIn u b ss) := hid (fun u hu => ⟨hI.keep hu (Nat.le_refl _), hP.keep hu (Nat.le_refl _)⟩)
  have HL := hid (And.intro (And.intro hn hm) (And.intro hsn hsm))
  clear hI hP hn hm hsn hsm
  go_enter Try.func43, Try.ntmps43
  go_wp2
  obtain ⟨w1, ew⟩ : ∃ w1, w1 = (w.alloc (.cells #[.int .i64 e, .slice a n cap, .slice b m cp] 27)).alloc (.cells #[.int .i64 0, .slice none 0 0, .slice none 0 0] 27) := ⟨_, rfl⟩
  rw [← ew] at H0 ⊢
  clear ew
  have H1 : Hid (CpSt w w1.drew e (.slice a n cap) (.slice b m cp)) := hid (H0.out.keep (Below.refl _ _).drew)
  have HS := hid H1.out.ln
  refine wp_region_held (S := fun ww => LnAt ww w.heap.size e (.slice a n cap) (.slice b m cp)) (by kernel_rfl) ?_
  try (change wpAnyH _ _ _ _ _ _ _ _ (World.drew _))
  refine wpAnyH_take (i := 0) (v := ?v1) rfl (by kernel_rfl) (by kernel_rfl) (by kernel_rfl) (fun _ _ _ h => h) (Or.inl ⟨by rfl, ?hy1⟩) HS.out ?rest1
  case hy1 => (intro ww _; go_simp; try with_reducible rfl)
  go_simp
  refine wpAnyH_take (i := 1) (v := ?v2) rfl (by kernel_rfl) (by kernel_rfl) (by kernel_rfl) (fun _ _ _ h => h) (Or.inl ⟨by rfl, ?hy2⟩) HS.out ?rest2
  case hy2 => (intro ww hS; obtain ⟨y0, y1, y2⟩ := hS.cells; go_simp; try with_reducible rfl)
  go_simp
  refine wpAnyH_take (i := 3) (v := ?v3) rfl (by kernel_rfl) (by kernel_rfl) (by kernel_rfl) (fun _ _ _ h => h) (Or.inl ⟨by rfl, ?hy3⟩) HS.out ?rest3
  case hy3 => (intro ww _; go_simp; try with_reducible rfl)
  go_simp
  refine wpAnyH_take (i := 4) (v := ?v4) rfl (by kernel_rfl) (by kernel_rfl) (by kernel_rfl) (fun _ _ _ h => h) (Or.inl ⟨by rfl, ?hy4⟩) HS.out ?rest4
  case hy4 => (intro ww hS; obtain ⟨y0, y1, y2⟩ := hS.cells; go_simp; try with_reducible rfl)
  go_simp
  refine wpAnyH_all (rs := [2]) (by kernel_rfl) (by simp) ?_
  intro i hi
  obtain rfl := List.mem_singleton.1 hi
  clear hi
  refine wpOp_k rfl (by rfl) (fun K hK => ?_)
  go_simp
  refine (lcopyConf_any e a n cap l HL.out.1.1 HL.out.1.2 _ (HD.out _ H1.out.bel).1).mono ?_
  rintro r w2 ⟨a1, c1, rfl, hN2, hb2⟩
  have H2 := hid (And.intro (H1.out.keep hb2) (And.intro hN2 hb2))
  clear hN2 hb2
  refine hK _ _ ⟨H2.out.1.ln, ?_⟩
  clear hK K
  go_simp
  refine wpAnyH_all (rs := [5]) (by kernel_rfl) (by simp) ?_
  intro i hi
  obtain rfl := List.mem_singleton.1 hi
  clear hi
  refine wpOp_k rfl (by rfl) (fun K hK => ?_)
  go_simp
  refine (cloneSigs_any b m cp ss HL.out.2.1 HL.out.2.2 _ (HD.out _ H2.out.1.bel).2).mono ?_
  rintro r w3 ⟨a2, c2, rfl, hN3, hb3⟩
  have H3 := hid (And.intro (H2.out.1.keep hb3) (And.intro hN3 (And.intro (H2.out.2.1.keep hb3) hb3)))
  clear hN3 hb3
  refine hK _ _ ⟨H3.out.1.ln, ?_⟩
  clear hK K
  go_simp
  refine wpAnyH_take (i := 6) (v := ?v5) rfl (by kernel_rfl) (by kernel_rfl) (by kernel_rfl) (fun _ _ _ h => h) (Or.inl ⟨by rfl, ?hy5⟩) H3.out.1.ln ?rest5
  case hy5 => (intro ww _; go_simp; try with_reducible rfl)
  go_simp
  refine wpAnyH_all (rs := [7]) (by kernel_rfl) (by simp) ?_
  intro i hi
  obtain rfl := List.mem_singleton.1 hi
  clear hi
  refine wpOp_k rfl (by rfl) (fun K hK => ?_)
  have r0 := (cell_three H3.out.1.res).1
  have r1 := (cell_three H3.out.1.res).2.1
  have r2 := (cell_three H3.out.1.res).2.2
  have f0 := free_at H3.out.1.res 0
  have f1 := free_at H3.out.1.res 1
  have f2 := free_at H3.out.1.res 2
  go_simp
  refine hK _ _ ⟨?_, ?_⟩
  · refine (Below.heap_setCell _ _ _ _ ?_).trans ((Below.heap_setCell _ _ _ _ ?_).trans ((Below.heap_setCell _ _ _ _ ?_).trans H3.out.1.ln)) <;> simp
  clear hK K r0 r1 r2 f0 f1 f2
  go_simp
  refine wpAnyH_done (by kernel_rfl) ?_ _
  go_simp
  go_wp2
  refine ret_one (s := 2) (ad := ⟨w.heap.size + 1, 0, none⟩) rfl rfl (load_link _ _ (.int .i64 e) (.slice a1 n c1) (.slice a2 m c2) (cell_three (res_put3 H3.out.1.res)).1 (cell_three (res_put3 H3.out.1.res)).2.1 (cell_three (res_put3 H3.out.1.res)).2.2) rfl ?_
  have hsz : w.heap.size + 1 < w1.drew.heap.size := lt_of_blk H1.out.res
  have hsz2 := H2.out.2.2.size
  refine ⟨a1, c1, a2, c2, rfl, (H3.out.2.2.1.low (by omega)).far_keep (by simp [World.setCell]) (fun x hx => ?_), (H3.out.2.1.low (by omega)).far_keep (by simp [World.setCell]) (fun x hx => ?_), ((H3.out.1.bel.setCell (p := ⟨w.heap.size + 1, 0, none⟩) (Nat.le_succ _) _).setCell (p := ⟨w.heap.size + 1, 1, none⟩) (Nat.le_succ _) _).setCell (p := ⟨w.heap.size + 1, 2, none⟩) (Nat.le_succ _) _⟩
  · have h1 := (H2.out.2.1.far x hx).1
    refine (Below.heap_setCell _ _ _ _ ?_).trans ((Below.heap_setCell _ _ _ _ ?_).trans (Below.heap_setCell _ _ _ _ ?_)) <;> (show x.block ≠ w.heap.size + 1; omega)
  · have h1 := (H3.out.2.1.far x hx).1
    refine (Below.heap_setCell _ _ _ _ ?_).trans ((Below.heap_setCell _ _ _ _ ?_).trans (Below.heap_setCell _ _ _ _ ?_)) <;> (show x.block ≠ w.heap.size + 1; omega)
end Go.Proofs.Ytpholamobedkhaa

/- The program's copies of links. -/
namespace Go.Proofs.Ytpholamobedkhaa
open Go.RowKit

theorem run_makeL (n : Nat) (hn : n ≤ 1000) : ∃ M : List Value, M.length = n * 3 ∧ ∀ u : World, (Instr.makeSlice 40 (.int .i64 (n : Int)) (.int .i64 (n : Int))).run Try.prog u = .ok (.slice (some ⟨u.heap.size, 0, none⟩) n n) (u.alloc (.cells M.toArray 27)) := by
  obtain ⟨i0, hi0, hz0, hz1, hz2⟩ := info_parts Try.info27
  refine ⟨(madeCells (Value.agg #[.int .i64 0, .slice none 0 0, .slice none 0 0]).cells (n * 3)).toList, by simp [size_madeCells], fun u => ?_⟩
  have h := run_make (P := Try.prog) u 40 27 i0 (.agg #[.int .i64 0, .slice none 0 0, .slice none 0 0]) Try.underlying40 hi0 hz0 .i64 .i64 n n (by omega) (by omega) (by rw [hz2]; omega) (by omega)
  rw [hz1, Int.toNat_natCast] at h
  rw [h]
theorem row_put3 {w : World} {b : Nat} {cur : List Value} {T : TypeId} (h : w.heap[b]? = some (.cells cur.toArray T (0, 0))) (o : Nat) (x0 x1 x2 : Value) : (((w.setCell ⟨b, o, none⟩ x0).setCell ⟨b, o + 1, none⟩ x1).setCell ⟨b, o + 2, none⟩ x2).heap[b]? = some (.cells (((cur.set o x0).set (o + 1) x1).set (o + 2) x2).toArray T (0, 0)) := by
  have h1 : (w.setCell ⟨b, o, none⟩ x0).heap[b]? = some (.cells (cur.set o x0).toArray T (0, 0)) := (blk_set h o x0).trans (by simp)
  have h2 : ((w.setCell ⟨b, o, none⟩ x0).setCell ⟨b, o + 1, none⟩ x1).heap[b]? = some (.cells ((cur.set o x0).set (o + 1) x1).toArray T (0, 0)) := (blk_set h1 (o + 1) x1).trans (by simp)
  exact (blk_set h2 (o + 2) x2).trans (by simp)
theorem set3_get (cur : List Value) (o : Nat) (x0 x1 x2 : Value) (ho : o + 2 < cur.length) : (((cur.set o x0).set (o + 1) x1).set (o + 2) x2)[o]? = some x0 ∧ (((cur.set o x0).set (o + 1) x1).set (o + 2) x2)[o + 1]? = some x1 ∧ (((cur.set o x0).set (o + 1) x1).set (o + 2) x2)[o + 2]? = some x2 := by
  refine ⟨?_, ?_, ?_⟩
  · rw [List.getElem?_set_ne (by omega), List.getElem?_set_ne (by omega), List.getElem?_set_self (by omega)]
  · rw [List.getElem?_set_ne (by omega), List.getElem?_set_self (by simp; omega)]
  · rw [List.getElem?_set_self (by simp; omega)]
theorem set3_far (cur : List Value) (o q : Nat) (x0 x1 x2 : Value) (hq : q < o) : (((cur.set o x0).set (o + 1) x1).set (o + 2) x2)[q]? = cur[q]? := by
  rw [List.getElem?_set_ne (by omega), List.getElem?_set_ne (by omega), List.getElem?_set_ne (by omega)]
theorem put3_ne (w : World) (b o k : Nat) (x0 x1 x2 : Value) (h : k ≠ b) : (((w.setCell ⟨b, o, none⟩ x0).setCell ⟨b, o + 1, none⟩ x1).setCell ⟨b, o + 2, none⟩ x2).heap[k]? = w.heap[k]? :=
  (Below.heap_setCell _ _ _ _ h).trans ((Below.heap_setCell _ _ _ _ h).trans (Below.heap_setCell _ _ _ _ h))
/-- A row of links that is filled from its beginning on: j of them stand. -/
structure CkSt (w0 w : World) (F : Nat → Prop) (n : Nat) (cur : List Value) (cs : List Lk) (j : Nat) : Prop where
  row : w.heap[w0.heap.size]? = some (.cells cur.toArray 27 (0, 0))
  len : cur.length = n * 3
  done : ∀ (i : Nat) (k : Lk), cs[i]? = some k → i < j → ∃ u1 u2, cur[i * 3]? = some (.int .i64 k.1) ∧ cur[i * 3 + 1]? = some u1 ∧ cur[i * 3 + 2]? = some u2 ∧ Reads F w u1 (dInts k.2.1) ∧ Reads F w u2 (dPairs k.2.2)
  far : ∀ k, F k → w0.heap.size < k ∧ Free w k
  bel : Below w0.heap.size w0 w
theorem CkSt.keep {w0 w w' : World} {F : Nat → Prop} {n : Nat} {cur : List Value} {cs : List Lk} {j : Nat} (h : CkSt w0 w F n cur cs j) (hb : Below w.heap.size w w') : CkSt w0 w' F n cur cs j :=
  ⟨(hb.block _ (lt_of_blk h.row)).trans h.row, h.len, fun i k hi hj => by
    obtain ⟨u1, u2, h1, h2, h3, h4, h5⟩ := h.done i k hi hj
    exact ⟨u1, u2, h1, h2, h3, h4.under hb (Nat.le_refl _), h5.under hb (Nat.le_refl _)⟩, fun k hk => ⟨(h.far k hk).1, (h.far k hk).2.keep (hb.block k (h.far k hk).2.lt)⟩, h.bel.trans (hb.mono h.bel.size)⟩
/-- The blocks of a link's two lists. -/
def twoF (a1 a2 : Option Addr) : Nat → Prop := fun k => (∃ x, a1 = some x ∧ x.block = k) ∨ ∃ x, a2 = some x ∧ x.block = k
/-- The next link put into the row. -/
theorem CkSt.put {w0 w : World} {F : Nat → Prop} {n : Nat} {cur : List Value} {cs : List Lk} {j : Nat} (h : CkSt w0 w F n cur cs j) {k : Lk} (hk : cs[j]? = some k) (hj : j < n) {B : Nat} (hB : w0.heap.size < B) {a1 a2 : Option Addr} {c1 c2 : Nat} (h1 : NewI B w a1 k.2.1) (h2 : NewT B w a2 k.2.2) :
    ∃ F' cur', CkSt w0 (((w.setCell ⟨w0.heap.size, j * 3, none⟩ (.int .i64 k.1)).setCell ⟨w0.heap.size, j * 3 + 1, none⟩ (.slice a1 k.2.1.length c1)).setCell ⟨w0.heap.size, j * 3 + 2, none⟩ (.slice a2 k.2.2.length c2)) F' n cur' cs (j + 1) := by
  have hw : ∀ q, q ≠ w0.heap.size → (((w.setCell ⟨w0.heap.size, j * 3, none⟩ (.int .i64 k.1)).setCell ⟨w0.heap.size, j * 3 + 1, none⟩ (.slice a1 k.2.1.length c1)).setCell ⟨w0.heap.size, j * 3 + 2, none⟩ (.slice a2 k.2.2.length c2)).heap[q]? = w.heap[q]? := fun q hq => put3_ne w _ _ q _ _ _ hq
  have hsz : (((w.setCell ⟨w0.heap.size, j * 3, none⟩ (.int .i64 k.1)).setCell ⟨w0.heap.size, j * 3 + 1, none⟩ (.slice a1 k.2.1.length c1)).setCell ⟨w0.heap.size, j * 3 + 2, none⟩ (.slice a2 k.2.2.length c2)).heap.size = w.heap.size := by simp [World.setCell]
  have hrow := row_put3 h.row (j * 3) (.int .i64 k.1) (.slice a1 k.2.1.length c1) (.slice a2 k.2.2.length c2)
  have hbel := ((h.bel.setCell (p := ⟨w0.heap.size, j * 3, none⟩) (Nat.le_refl _) (.int .i64 k.1)).setCell (p := ⟨w0.heap.size, j * 3 + 1, none⟩) (Nat.le_refl _) (.slice a1 k.2.1.length c1)).setCell (p := ⟨w0.heap.size, j * 3 + 2, none⟩) (Nat.le_refl _) (.slice a2 k.2.2.length c2)
  generalize (((w.setCell ⟨w0.heap.size, j * 3, none⟩ (.int .i64 k.1)).setCell ⟨w0.heap.size, j * 3 + 1, none⟩ (.slice a1 k.2.1.length c1)).setCell ⟨w0.heap.size, j * 3 + 2, none⟩ (.slice a2 k.2.2.length c2)) = w' at hw hsz hrow hbel ⊢
  have hfar : ∀ q, (F q ∨ twoF a1 a2 q) → w0.heap.size < q ∧ Free w q := by
    rintro q (hq | ⟨x, hx, rfl⟩ | ⟨x, hx, rfl⟩)
    · exact h.far q hq
    · exact ⟨Nat.lt_of_lt_of_le hB (h1.far x hx).1, (h1.far x hx).2⟩
    · exact ⟨Nat.lt_of_lt_of_le hB (h2.far x hx).1, (h2.far x hx).2⟩
  have hkeep : ∀ {u : Value} {d : Dat}, Reads (fun q => F q ∨ twoF a1 a2 q) w u d → Reads (fun q => F q ∨ twoF a1 a2 q) w' u d := fun hu => hu.keep (Nat.le_of_eq hsz.symm) (fun q _ hq => hw q (by have := (hfar q hq).1; omega))
  have hlen := h.len
  refine ⟨fun q => F q ∨ twoF a1 a2 q, _, hrow, by simpa using hlen, fun i x hx hi => ?_, fun q hq => ⟨(hfar q hq).1, (hfar q hq).2.keep (hw q (by have := (hfar q hq).1; omega))⟩, hbel⟩
  rcases Nat.lt_or_ge i j with hij | hij
  · obtain ⟨u1, u2, e0, e1, e2, r1, r2⟩ := h.done i x hx hij
    refine ⟨u1, u2, ?_, ?_, ?_, hkeep (r1.mono (fun _ _ hq => .inl hq)), hkeep (r2.mono (fun _ _ hq => .inl hq))⟩
    · rw [set3_far _ _ _ _ _ _ (by omega)]; exact e0
    · rw [set3_far _ _ _ _ _ _ (by omega)]; exact e1
    · rw [set3_far _ _ _ _ _ _ (by omega)]; exact e2
  · obtain rfl : i = j := by omega
    rw [hk] at hx
    cases hx
    obtain ⟨e0, e1, e2⟩ := set3_get cur (i * 3) (.int .i64 k.1) (.slice a1 k.2.1.length c1) (.slice a2 k.2.2.length c2) (by omega)
    exact ⟨_, _, e0, e1, e2, hkeep (ints_reads h1.ints (fun x hx _ => .inr (.inl ⟨x, hx, rfl⟩))), hkeep (pairs_reads h2.pairs (fun x hx _ => .inr (.inr ⟨x, hx, rfl⟩)))⟩
/-- All stand. -/
theorem CkSt.all {w0 w : World} {F : Nat → Prop} {cur : List Value} {cs : List Lk} (h : CkSt w0 w F cs.length cur cs cs.length) (hl : cs.length ≤ 900) : OwnD 27 3 w0.heap.size F w (.slice (some ⟨w0.heap.size, 0, none⟩) cs.length cs.length) (dLks cs) := by
  refine ⟨⟨cur, ⟨by rw [dLks_len]; exact h.len, .inr ⟨w0.heap.size, cs.length, _, by rw [dLks_len], Nat.le_refl _, h.row, by rw [dLks_len]; exact Nat.le_refl _, by unfold maxLen; omega, by simpa using h.len, ?_⟩⟩, fun j e he => ?_⟩, fun g hg hF => ?_⟩
  · rw [dLks_len, ← h.len]
    simp
  · rw [dLks, List.getElem?_map] at he
    cases hk : cs[j]? with
    | none => rw [hk] at he; cases he
    | some k =>
      rw [hk] at he
      cases he
      obtain ⟨u1, u2, e0, e1, e2, r1, r2⟩ := h.done j k hk (List.getElem?_eq_some_iff.1 hk).1
      refine ⟨rfl, fun q d hd => ?_⟩
      match q, hd with
      | 0, hd => cases hd; exact ⟨_, e0, .i _⟩
      | 1, hd => cases hd; exact ⟨_, e1, r1⟩
      | 2, hd => cases hd; exact ⟨_, e2, r2⟩
  · cases hg
    exact absurd (h.far _ hF).1 (Nat.lt_irrefl _)
set_option maxRecDepth 100000 in
set_option maxHeartbeats 3200000 in
theorem lcopyLinks_any (G : Nat → Prop) (cv : Value) (cs : List Lk) (hl : cs.length ≤ 900) (hcs : ∀ k, k ∈ cs → k.2.1.length ≤ 10 ∧ k.2.2.length ≤ 16) (w : World) (hC : Reads G w cv (.l 3 (dLks cs))) :
    Calls Try.prog 38 #[cv] w fun r w' => ∃ v F, r = .returned v ∧ OwnD 27 3 w.heap.size F w' v (dLks cs) ∧ (∀ k, F k → w.heap.size ≤ k ∧ Free w' k) ∧ Below w.heap.size w w' := by
  obtain ⟨ca, cc, hv⟩ := lks_form hC
  subst hv
  obtain ⟨M, hM, hmk⟩ := run_makeL cs.length (by omega)
  have hl2 : (cs.length : Int) ≤ 900 := by omega
  have HMk := hid hmk
  have HC := hid (And.intro hC hcs)
  have H0 : Hid (CkSt w (w.alloc (.cells M.toArray 27)) (fun _ => False) cs.length M cs 0) := hid ⟨heap_alloc_last w _, hM, fun i k _ h => absurd h (Nat.not_lt_zero _), fun k hk => hk.elim, (Below.refl _ _).alloc (Nat.le_refl _) _⟩
  have HL := hid hl
  clear hmk hC hcs hM hl
  go_enter Try.func38, Try.ntmps38
  go_wp2_with (rw [HMk.out])
  go_loopw [11] (fun i wr => ∃ (j : Nat) (F : Nat → Prop) (cur : List Value), j ≤ cs.length ∧ i = .int .i64 (j : Int) ∧ CkSt w wr F cs.length cur cs j)
    (fun i _ => ((cs.length : Int) - intOf i).toNat)
  case atStart => exact ⟨0, _, M, by omega, rfl, H0.out⟩
  case round =>
    obtain ⟨j, F, cur, hj, rfl, hS⟩ := hrel
    have HS := hid hS
    clear hS
    by_cases hjn : j = cs.length
    · have hj1 : ¬ ((j : Int) < (cs.length : Int)) := by omega
      subst hjn
      clear hj
      go_wp2
      go_ret
      exact ⟨_, rfl, F, HS.out.all HL.out, fun q hq => ⟨Nat.le_of_lt (HS.out.far q hq).1, (HS.out.far q hq).2⟩, HS.out.bel⟩
    · have hj1 : (j : Int) < (cs.length : Int) := by omega
      have hj0 : (0 : Int) ≤ (j : Int) := Int.natCast_nonneg _
      obtain ⟨k, hk⟩ : ∃ k, cs[j]? = some k := ⟨_, List.getElem?_eq_getElem (by omega)⟩
      obtain ⟨g, off, _, a1, c1, a2, c2, hv, hg, k0, k1, k2, hi1, hp1⟩ := lks_at HC.out.1 j k hk
      cases hv
      have x0 := (HS.out.bel.cell (p := ⟨g, _, none⟩) hg).trans k0
      have x1 := (HS.out.bel.cell (p := ⟨g, _, none⟩) hg).trans k1
      have x2 := (HS.out.bel.cell (p := ⟨g, _, none⟩) hg).trans k2
      have hA : Below wr.heap.size wr (wr.alloc (.cells #[.int .i64 k.1, .slice a1 k.2.1.length c1, .slice a2 k.2.2.length c2] 27)) := (Below.refl _ _).alloc (Nat.le_refl _) _
      have H1 : Hid (CkSt w (wr.alloc (.cells #[.int .i64 k.1, .slice a1 k.2.1.length c1, .slice a2 k.2.2.length c2] 27)) F cs.length cur cs j) := hid (HS.out.keep hA)
      have HI : Hid (IntsIn (wr.alloc (.cells #[.int .i64 k.1, .slice a1 k.2.1.length c1, .slice a2 k.2.2.length c2] 27)) a1 k.2.1 ∧ PairsIn (wr.alloc (.cells #[.int .i64 k.1, .slice a1 k.2.1.length c1, .slice a2 k.2.2.length c2] 27)) a2 k.2.2) := hid ⟨hi1.keep H1.out.bel (Nat.le_refl _), hp1.keep H1.out.bel (Nat.le_refl _)⟩
      have HJ := hid (And.intro hj (And.intro hjn hk))
      have HZ := hid (HC.out.2 k (List.mem_of_getElem? hk))
      have hjlt : j * 3 + 2 < cur.length := by rw [HS.out.len]; omega
      obtain ⟨y0, e0⟩ : ∃ y, cur[j * 3]? = some y := ⟨_, List.getElem?_eq_getElem (by omega)⟩
      obtain ⟨y1, e1⟩ : ∃ y, cur[j * 3 + 1]? = some y := ⟨_, List.getElem?_eq_getElem (by omega)⟩
      obtain ⟨y2, e2⟩ : ∃ y, cur[j * 3 + 2]? = some y := ⟨_, List.getElem?_eq_getElem (by omega)⟩
      have HE := hid (And.intro e0 (And.intro e1 e2))
      clear hi1 hp1 k0 k1 k2 hj hjn hk hg hA hjlt e0 e1 e2
      go_wp2_with (go_at_call 43; refine (lcopyLink_any _ _ _ _ _ rfl (by have := HZ.out; omega) _ _ _ _ rfl (by have := HZ.out; omega) _ (by exact HI.out.1) (by exact HI.out.2)).mono ?_; rintro r w2 ⟨b1, d1, b2, d2, rfl, hN1, hN2, hb2⟩
                   have H2 := hid (And.intro (H1.out.keep hb2) (And.intro hN1 hN2))
                   clear hN1 hN2 hb2
                   have r0 := cell_at H2.out.1.row _ _ HE.out.1
                   have r1 := cell_at H2.out.1.row _ _ HE.out.2.1
                   have r2 := cell_at H2.out.1.row _ _ HE.out.2.2
                   have f0 := free_at H2.out.1.row (j * 3)
                   have f1 := free_at H2.out.1.row (j * 3 + 1)
                   have f2 := free_at H2.out.1.row (j * 3 + 2))
      go_roundw
      case rel =>
        obtain ⟨F', cur', h3⟩ := H2.out.1.put (c1 := d1) (c2 := d2) HJ.out.2.2 (by have := HJ.out; omega) (by have := lt_of_blk HS.out.row; simp; omega) H2.out.2.1 H2.out.2.2
        exact ⟨j + 1, F', cur', by have := HJ.out; omega, rfl, h3⟩
      case measure => have := HJ.out; simp [intOf]; omega
end Go.Proofs.Ytpholamobedkhaa

/- The program's tracker in memory. No walk here. -/
namespace Go.Proofs.Ytpholamobedkhaa
open Go.RowKit

/-- What a tracker of the program holds: its first configuration stands ahead of the links. -/
def kn (fm : List Int) (ls : List Lk) : List Lk := (0, fm, []) :: ls
theorem kn_len (fm : List Int) (ls : List Lk) : (kn fm ls).length = ls.length + 1 := rfl
/-- A tracker at block g: its row vl (from block B on), what its links lead to in blocks of F. -/
structure TkAt (B : Nat) (F : Nat → Prop) (w : World) (g : Nat) (vl : Value) (fm : List Int) (ls : List Lk) : Prop where
  blk : w.heap[g]? = some (.cells #[vl] 68 (0, 0))
  own : OwnD 27 3 B F w vl (dLks (kn fm ls))
  le : B ≤ w.heap.size
  gF : ¬ F g
  gv : vl.ownBlock ≠ some g
  flt : ∀ k, F k → k < w.heap.size
/-- A tracker at v, of blocks O, that began with the members fm (epoch 0) and knows the links ls. -/
def TrAt (O : Nat → Prop) (w : World) (v : Value) (fm : List Int) (ls : List Lk) : Prop :=
  ∃ g B F vl, v = .pointer (some ⟨g, 0, none⟩) ∧ TkAt B F w g vl fm ls ∧ ∀ k, O k ↔ (k = g ∨ F k ∨ vl.ownBlock = some k)
theorem TrAt.lt {O : Nat → Prop} {w : World} {v : Value} {fm : List Int} {ls : List Lk} (h : TrAt O w v fm ls) (k : Nat) (hk : O k) : k < w.heap.size := by
  obtain ⟨g, B, F, vl, _, hM, hO⟩ := h
  rcases (hO k).1 hk with rfl | hq | hq
  · exact lt_of_blk hM.blk
  · exact hM.flt k hq
  · exact (hM.own.lt k hq).2
theorem TkAt.stay {B : Nat} {F : Nat → Prop} {w w' : World} {g : Nat} {vl : Value} {fm : List Int} {ls : List Lk} (h : TkAt B F w g vl fm ls) (hs : w.heap.size ≤ w'.heap.size) (hk : ∀ k, (k = g ∨ F k ∨ vl.ownBlock = some k) → w'.heap[k]? = w.heap[k]?) : TkAt B F w' g vl fm ls :=
  ⟨(hk g (.inl rfl)).trans h.blk, h.own.keep hs (fun k _ hF => hk k (.inr (.inl hF))) (fun r hr => hk r (.inr (.inr hr))), Nat.le_trans h.le hs, h.gF, h.gv, fun k hF => Nat.lt_of_lt_of_le (h.flt k hF) hs⟩
theorem TkAt.keep {B : Nat} {F : Nat → Prop} {w w' : World} {g : Nat} {vl : Value} {fm : List Int} {ls : List Lk} (h : TkAt B F w g vl fm ls) (hb : Below w.heap.size w w') : TkAt B F w' g vl fm ls :=
  h.stay hb.size (fun k hk => hb.block k (by
    rcases hk with rfl | hq | hq
    · exact lt_of_blk h.blk
    · exact h.flt k hq
    · exact (h.own.lt k hq).2))
theorem TrAt.keep {O : Nat → Prop} {w w' : World} {v : Value} {fm : List Int} {ls : List Lk} (h : TrAt O w v fm ls) (hs : w.heap.size ≤ w'.heap.size) (hb : ∀ k, k < w.heap.size → O k → w'.heap[k]? = w.heap[k]?) : TrAt O w' v fm ls := by
  have hlt := h.lt
  obtain ⟨g, B, F, vl, hv, hM, hO⟩ := h
  exact ⟨g, B, F, vl, hv, hM.stay hs (fun k hk => hb k (hlt k ((hO k).2 hk)) ((hO k).2 hk)), hO⟩
theorem TrAt.isptr {O : Nat → Prop} {w : World} {v : Value} {fm : List Int} {ls : List Lk} (h : TrAt O w v fm ls) : ∃ g, v = .pointer (some ⟨g, 0, none⟩) := by
  obtain ⟨g, _, _, _, hv, _⟩ := h
  exact ⟨g, hv⟩
/-- A tracker's row. -/
theorem TkAt.form {B : Nat} {F : Nat → Prop} {w : World} {g : Nat} {vl : Value} {fm : List Int} {ls : List Lk} (h : TkAt B F w g vl fm ls) : ∃ r cap, vl = .slice (some ⟨r, 0, none⟩) (ls.length + 1) cap ∧ ls.length + 1 ≤ cap ∧ cap ≤ maxLen ∧ r < w.heap.size ∧ r ≠ g := by
  obtain ⟨cs, ho, _⟩ := h.own.own
  rcases ho.2 with ⟨_, h0⟩ | ⟨r, cap, cur, hv, _, hh, hc, hm, _⟩
  · rw [dLks_len, kn_len] at h0; omega
  · rw [dLks_len, kn_len] at hv hc
    refine ⟨r, cap, hv, hc, hm, lt_of_blk hh, fun e => h.gv ?_⟩
    rw [hv, e]
    rfl
theorem TkAt.reads {B : Nat} {F : Nat → Prop} {w : World} {g : Nat} {vl : Value} {fm : List Int} {ls : List Lk} (h : TkAt B F w g vl fm ls) : Reads (fun k => F k ∨ vl.ownBlock = some k) w vl (.l 3 (dLks (kn fm ls))) := h.own.reads
theorem cell_one {w : World} {b : Nat} {x : Value} {T : TypeId} {fr : Nat × Nat} (h : w.heap[b]? = some (.cells #[x] T fr)) : w.cell? ⟨b, 0, none⟩ = some x := cell_at (L := [x]) h 0 _ rfl
/-- The rest of a chain in memory. -/
theorem reads_tail {G : Nat → Prop} {w : World} {r off cap c2 : Nat} {k : Lk} {ls : List Lk} {ad : Option Addr} (h : Reads G w (.slice (some ⟨r, off, none⟩) (ls.length + 1) cap) (.l 3 (dLks (k :: ls)))) (had : ls ≠ [] → ad = some ⟨r, off + 3, none⟩) : Reads G w (.slice ad ls.length c2) (.l 3 (dLks ls)) := by
  cases ls with
  | nil => exact .nil ad c2 3
  | cons k2 ls =>
    rw [had (by simp)]
    have hat : ∀ (j : Nat) (e : List Dat), (dLks (k2 :: ls))[j]? = some e → G r ∧ r < w.heap.size ∧ e.length = 3 ∧ ∀ (q : Nat) (d : Dat), e[q]? = some d → ∃ u, w.cell? ⟨r, off + 3 + j * 3 + q, none⟩ = some u ∧ Reads G w u d := fun j e he => by
      obtain ⟨g, o, c, hv, hG, hg, hl, hc⟩ := h.at (j + 1) e he
      rw [dLks_len] at hv
      cases hv
      refine ⟨hG, hg, hl, fun q d hd => ?_⟩
      obtain ⟨u, h1, h2⟩ := hc q d hd
      rw [show off + (j + 1) * 3 + q = off + 3 + j * 3 + q by omega] at h1
      exact ⟨u, h1, h2⟩
    have hr := hat 0 _ rfl
    have := Reads.l (F := G) (w := w) r (off + 3) c2 3 (dLks (k2 :: ls)) (fun j q => (w.cell? ⟨r, off + 3 + j * 3 + q, none⟩).getD undef) hr.1 hr.2.1 (fun j e he => (hat j e he).2.2.1) (fun j e q d he hd => by
      obtain ⟨u, h1, _⟩ := (hat j e he).2.2.2 q d hd
      rw [h1]; rfl) (fun j e q d he hd => by
      obtain ⟨u, h1, h2⟩ := (hat j e he).2.2.2 q d hd
      rw [h1]; exact h2)
    rwa [dLks_len] at this
end Go.Proofs.Ytpholamobedkhaa

/- The program's tracker: what it knows. -/
namespace Go.Proofs.Ytpholamobedkhaa
open Go.RowKit

set_option maxRecDepth 100000 in
set_option maxHeartbeats 1600000 in
theorem lknows_any (B : Nat) (F : Nat → Prop) (g : Nat) (vl : Value) (fm : List Int) (ls : List Lk) (w : World) (h : TkAt B F w g vl fm ls) :
    Calls Try.prog 37 #[.pointer (some ⟨g, 0, none⟩)] w fun r w' => r = .returned (.bool false) ∧ Below w.heap.size w w' := by
  obtain ⟨r, cap, rfl, hc, hm, hr, hrg⟩ := h.form
  have t0 := cell_one h.blk
  clear h hc hm hr hrg
  have hn : ¬ (((ls.length + 1 : Nat) : Int) = 0) := by omega
  generalize ls.length + 1 = n at *
  have hnb : ((n : Int) == 0) = false := by simpa using hn
  go_enter Try.func37, Try.ntmps37
  go_wp2
  go_ret
  exact ⟨rfl, Below.refl _ _⟩
set_option maxRecDepth 100000 in
set_option maxHeartbeats 1600000 in
theorem lepochK_any (B : Nat) (F : Nat → Prop) (g : Nat) (vl : Value) (fm : List Int) (ls : List Lk) (hl : ls.length ≤ 900) (w : World) (h : TkAt B F w g vl fm ls) :
    Calls Try.prog 18 #[.pointer (some ⟨g, 0, none⟩)] w fun r w' => r = .returned (.int .i64 (ls.length : Int)) ∧ Below w.heap.size w w' := by
  obtain ⟨r, cap, rfl, hc, hm, hr, hrg⟩ := h.form
  have HK := hid (lknows_any B F g _ fm ls w h)
  have HT := hid h
  have hn : ((ls.length + 1 : Nat) : Int) - 1 = (ls.length : Int) := by omega
  have hn2 : (ls.length : Int) ≤ 900 := by omega
  clear h hc hm hr hrg hl
  go_enter Try.func18, Try.ntmps18
  go_wp2_with (go_at_call 37; refine HK.out.mono ?_; rintro e w1 ⟨rfl, hb1⟩; have H1 := hid (And.intro (HT.out.keep hb1) hb1); clear hb1; have t0 := cell_one H1.out.1.blk)
  go_ret
  first | exact ⟨rfl, H1.out.2⟩ | (refine ⟨?_, H1.out.2⟩; simp)
theorem OwnD.low {T : TypeId} {sz B C : Nat} {F : Nat → Prop} {w : World} {v : Value} {es : List (List Dat)} (h : OwnD T sz B F w v es) (hC : C ≤ B) : OwnD T sz C F w v es := by
  obtain ⟨cs, h3, h4⟩ := h.own
  exact ⟨⟨cs, ownsRow_low h3 hC, h4⟩, h.sep⟩
theorem lepoch_any (O : Nat → Prop) (v : Value) (fm : List Int) (ls : List Lk) (hl : ls.length ≤ 900) (w : World) (h : TrAt O w v fm ls) :
    Calls Try.prog 18 #[v] w fun r w' => r = .returned (.int .i64 (ls.length : Int)) ∧ Below w.heap.size w w' := by
  obtain ⟨g, B, F, vl, rfl, hM, _⟩ := h
  exact lepochK_any B F g vl fm ls hl w hM
set_option maxRecDepth 100000 in
set_option maxHeartbeats 1600000 in
theorem lchainK_any (B : Nat) (F : Nat → Prop) (g : Nat) (vl : Value) (fm : List Int) (ls : List Lk) (hl : ls.length ≤ 900) (hls : ∀ k, k ∈ ls → k.2.1.length ≤ 10 ∧ k.2.2.length ≤ 16) (w : World) (h : TkAt B F w g vl fm ls) :
    Calls Try.prog 17 #[.pointer (some ⟨g, 0, none⟩)] w fun r w' => ∃ v F', r = .returned v ∧ OwnD 27 3 w.heap.size F' w' v (dLks ls) ∧ (∀ k, F' k → w.heap.size ≤ k ∧ Free w' k) ∧ Below w.heap.size w w' := by
  obtain ⟨r, cap, rfl, hc, hm, hr, hrg⟩ := h.form
  have HK := hid (lknows_any B F g _ fm ls w h)
  have HT := hid h
  have HC : Hid (∀ (u : World) (ad : Option Addr) (n c2 : Nat), n = ls.length → TkAt B F u g (.slice (some ⟨r, 0, none⟩) (ls.length + 1) cap) fm ls → (ls ≠ [] → ad = some ⟨r, 3, none⟩) → Calls Try.prog 38 #[.slice ad n c2] u fun r w' => ∃ v F', r = .returned v ∧ OwnD 27 3 u.heap.size F' w' v (dLks ls) ∧ (∀ k, F' k → u.heap.size ≤ k ∧ Free w' k) ∧ Below u.heap.size u w') := hid (fun u ad n c2 hn hu had => by rw [hn]; exact lcopyLinks_any _ _ ls hl hls u (reads_tail (k := (0, fm, [])) hu.reads (by simpa using had)))
  have hn2 : (ls.length : Int) ≤ 900 := by omega
  have hcm : (cap : Int) ≤ 9223372036854775807 := by unfold maxLen at hm; omega
  have hc0 : (1 : Int) ≤ (cap : Int) := by omega
  clear h hm hr hrg hl hls
  by_cases hc1 : cap = 1
  · subst hc1
    obtain rfl : ls = [] := List.eq_nil_of_length_eq_zero (by omega)
    clear hc hc0 hcm hn2
    go_enter Try.func17, Try.ntmps17
    go_wp2_with (first
      | (go_at_call 37; refine HK.out.mono ?_; rintro e w1 ⟨rfl, hb1⟩; have H1 := hid (And.intro (HT.out.keep hb1) hb1); clear hb1; have t0 := cell_one H1.out.1.blk)
      | (go_at_call 38; refine (HC.out _ _ _ _ (by simp) (by exact H1.out.1) (by intro h; exact absurd rfl h)).mono ?_; rintro e w2 ⟨v2, F2, rfl, ho2, hF2, hb2⟩; have H2 := hid (And.intro ho2 (And.intro hF2 hb2)); clear ho2 hF2 hb2; obtain ⟨a2, c2, hv2⟩ := H2.out.1.form; subst hv2))
    go_ret
    have hs := H1.out.2.size
    have h2 := H2.out
    obtain ⟨ho2, hF2, hb2⟩ := h2
    have hlow : OwnD 27 3 w.heap.size F2 w2 (.slice a2 (dLks []).length c2) (dLks []) := ho2.low hs
    first | exact ⟨_, rfl, F2, hlow, fun k hk => ⟨Nat.le_trans hs (hF2 k hk).1, (hF2 k hk).2⟩, H1.out.2.trans (hb2.mono hs)⟩ | exact ⟨_, F2, rfl, hlow, fun k hk => ⟨Nat.le_trans hs (hF2 k hk).1, (hF2 k hk).2⟩, H1.out.2.trans (hb2.mono hs)⟩
  · clear hc
    go_enter Try.func17, Try.ntmps17
    go_wp2_with (first
      | (go_at_call 37; refine HK.out.mono ?_; rintro e w1 ⟨rfl, hb1⟩; have H1 := hid (And.intro (HT.out.keep hb1) hb1); clear hb1; have t0 := cell_one H1.out.1.blk)
      | (go_at_call 38; refine (HC.out _ _ _ _ (by simp) (by exact H1.out.1) (by intro _; rfl)).mono ?_; rintro e w2 ⟨v2, F2, rfl, ho2, hF2, hb2⟩; have H2 := hid (And.intro ho2 (And.intro hF2 hb2)); clear ho2 hF2 hb2; obtain ⟨a2, c2, hv2⟩ := H2.out.1.form; subst hv2))
    go_ret
    have hs := H1.out.2.size
    have h2 := H2.out
    obtain ⟨ho2, hF2, hb2⟩ := h2
    have hlow : OwnD 27 3 w.heap.size F2 w2 (.slice a2 (dLks ls).length c2) (dLks ls) := ho2.low hs
    first | exact ⟨_, rfl, F2, hlow, fun k hk => ⟨Nat.le_trans hs (hF2 k hk).1, (hF2 k hk).2⟩, H1.out.2.trans (hb2.mono hs)⟩ | exact ⟨_, F2, rfl, hlow, fun k hk => ⟨Nat.le_trans hs (hF2 k hk).1, (hF2 k hk).2⟩, H1.out.2.trans (hb2.mono hs)⟩
theorem lchainO_any (O : Nat → Prop) (v : Value) (fm : List Int) (ls : List Lk) (hl : ls.length ≤ 900) (hls : ∀ k, k ∈ ls → k.2.1.length ≤ 10 ∧ k.2.2.length ≤ 16) (w : World) (h : TrAt O w v fm ls) :
    Calls Try.prog 17 #[v] w fun r w' => ∃ v F', r = .returned v ∧ OwnD 27 3 w.heap.size F' w' v (dLks ls) ∧ (∀ k, F' k → w.heap.size ≤ k ∧ Free w' k) ∧ Below w.heap.size w w' := by
  obtain ⟨g, B, F, vl, rfl, hM, _⟩ := h
  exact lchainK_any B F g vl fm ls hl hls w hM
theorem lchain_any (O : Nat → Prop) (v : Value) (fm : List Int) (ls : List Lk) (hl : ls.length ≤ 900) (hls : ∀ k, k ∈ ls → k.2.1.length ≤ 10 ∧ k.2.2.length ≤ 16) (w : World) (h : TrAt O w v fm ls) :
    Calls Try.prog 17 #[v] w fun r w' => ∃ v' F', r = .returned v' ∧ RowAt 3 F' w' v' (dLks ls) ∧ (∀ k, F' k → w.heap.size ≤ k) ∧ (∀ g, rowOf v' = some g → w.heap.size ≤ g) ∧ Below w.heap.size w w' := by
  refine (lchainO_any O v fm ls hl hls w h).mono ?_
  rintro r w' ⟨v', F', rfl, ho, hF, hb⟩
  refine ⟨v', F', rfl, ho.row, fun k hk => (hF k hk).1, fun g hg => ?_, hb⟩
  obtain ⟨ad, cap, rfl⟩ := ho.form
  cases ad with
  | none => cases hg
  | some x => exact (ho.lt g hg).1
end Go.Proofs.Ytpholamobedkhaa

/- The library's calls that the council makes: Contains, BinarySearch, Insert, Delete, at lists of numbers. -/
namespace Go.Proofs.Ytpholamobedkhaa
open Go.RowKit

set_option maxRecDepth 100000 in
set_option maxHeartbeats 1600000 in
theorem index_any (a : Option Addr) (n cap : Nat) (l : List Int) (hn : l.length = n) (hm : n ≤ maxLen) (id : Int) (w : World) (hI : IntsIn w a l) :
    Calls Try.prog 69 #[.slice a n cap, .int .i64 id] w fun e w' => ∃ k : Int, e = .returned (.int .i64 k) ∧ decide (0 ≤ k) = hasM l id ∧ w' = w := by
  have hm2 : (n : Int) ≤ 9223372036854775807 := by unfold maxLen at hm; omega
  have HI := hid hI
  have HN := hid hn
  clear hI hm hn
  go_enter Try.func69, Try.ntmps69
  go_wp2
  go_loopw [8] (fun i wr => ∃ j : Nat, j ≤ n ∧ i = .int .i64 (j : Int) ∧ id ∉ l.take j ∧ wr = w)
    (fun i _ => ((n : Int) - intOf i).toNat)
  case atStart => exact ⟨0, by omega, rfl, by simp, rfl⟩
  case round =>
    obtain ⟨j, hj, rfl, hno, rfl⟩ := hrel
    by_cases hjn : j = n
    · have hj1 : ¬ ((j : Int) < (n : Int)) := by omega
      have HF : Hid (hasM l id = false) := hid (decide_eq_false (by rwa [List.take_of_length_le (by rw [HN.out]; omega)] at hno))
      clear hno hj hjn
      go_wp2
      go_ret
      exact ⟨-1, rfl, by rw [HF.out]; rfl, rfl⟩
    · have hj1 : (j : Int) < (n : Int) := by omega
      have hj0 : (0 : Int) ≤ (j : Int) := Int.natCast_nonneg _
      have hjl : j < l.length := by rw [HN.out]; omega
      obtain ⟨g, off, rfl, hg, cz⟩ := HI.out.at j _ (getD_some hjl)
      by_cases hx : l.getD j 0 = id
      · have HF : Hid (hasM l id = true) := hid (decide_eq_true (mem_of_get hx hjl))
        rw [hx] at cz
        clear hno hj hjn hx hjl hg
        go_wp2
        go_ret
        exact ⟨(j : Int), rfl, by rw [HF.out, decide_eq_true hj0], rfl⟩
      · have HF : Hid (id ∉ l.take (j + 1)) := hid (not_mem_snoc hno hx hjl)
        obtain ⟨x, ex⟩ : ∃ x, x = l.getD j 0 := ⟨_, rfl⟩
        rw [← ex] at cz hx
        have hx' : ¬ (id = x) := fun h => hx h.symm
        have HJ := hid (And.intro hj hjn)
        clear hno hj hjn hjl hg ex
        go_wp2
        go_roundw
        case rel => exact ⟨j + 1, by have := HJ.out; omega, by go_num, HF.out, by first | exact rfl | exact trivial⟩
        case measure => simp [intOf]; omega
theorem contains_any (a : Option Addr) (n cap : Nat) (l : List Int) (hn : l.length = n) (hm : n ≤ maxLen) (id : Int) (w : World) (hI : IntsIn w a l) :
    Calls Try.prog 65 #[.slice a n cap, .int .i64 id] w fun e w' => e = .returned (.bool (hasM l id)) ∧ w' = w := by
  have HC := hid (index_any a n cap l hn hm id w hI)
  clear hI hn hm
  go_enter Try.func65, Try.ntmps65
  go_wp2_with (go_at_call 69; refine (HC.out).mono ?_; rintro e wx ⟨k, rfl, hk, rfl⟩; have HK := hid hk; clear hk)
  go_ret
  exact ⟨by rw [← HK.out]; rfl, rfl⟩

/-- How many of the members stand ahead of id. -/
def placeN (l : List Int) (id : Int) : Nat := l.countP (· < id)
theorem place_cut (id : Int) : ∀ {l : List Int}, Inc l → (∀ x ∈ l.take (placeN l id), x < id) ∧ (∀ x ∈ l.drop (placeN l id), id ≤ x)
  | [], _ => by simp
  | y :: l, h => by
    obtain ⟨hy, hl⟩ := List.pairwise_cons.1 h
    by_cases e : y < id
    · have hp : placeN (y :: l) id = placeN l id + 1 := by rw [placeN, List.countP_cons_of_pos (by simpa using e)]; rfl
      obtain ⟨h1, h2⟩ := place_cut id hl
      rw [hp, List.take_succ_cons, List.drop_succ_cons]
      refine ⟨fun x hx => ?_, h2⟩
      rcases List.mem_cons.1 hx with rfl | hx
      · exact e
      · exact h1 x hx
    · have hp : placeN (y :: l) id = 0 := by
        rw [placeN, List.countP_eq_zero]
        intro x hx
        rcases List.mem_cons.1 hx with rfl | hx
        · simpa using e
        · have := hy x hx
          simp
          omega
      rw [hp]
      refine ⟨by simp, fun x hx => ?_⟩
      rcases List.mem_cons.1 (by simpa using hx) with rfl | hx
      · omega
      · have := hy x hx
        omega
theorem place_le (l : List Int) (id : Int) : placeN l id ≤ l.length := List.countP_le_length
/-- Who joins stands at his place. -/
theorem join_put {l : List Int} {id : Int} (hb : memB l = true) (h0 : 0 ≤ id ∧ id < 16) (hh : hasM l id = false) : joinTo l id 16 = l.take (placeN l id) ++ [id] ++ l.drop (placeN l id) := by
  have hi := mem_inc hb
  obtain ⟨h1, h2⟩ := place_cut id hi
  have hno := of_decide_eq_false hh
  refine inc_eq _ _ (joinTo_inc l id 16) ?_ (fun x => ?_)
  · rw [List.append_assoc]
    refine List.pairwise_append.2 ⟨hi.sublist (List.take_sublist _ _), List.pairwise_append.2 ⟨by simp, hi.sublist (List.drop_sublist _ _), fun x hx y hy => ?_⟩, fun x hx y hy => ?_⟩
    · obtain rfl := List.mem_singleton.1 hx
      have := h2 y hy
      have hne : y ≠ x := fun e => hno (e ▸ List.mem_of_mem_drop hy)
      omega
    · have h3 := h1 x hx
      rcases List.mem_append.1 hy with hy | hy
      · obtain rfl := List.mem_singleton.1 hy
        exact h3
      · have := h2 y hy
        omega
  · rw [join_mem hb h0 x]
    have hs : x ∈ l ↔ x ∈ l.take (placeN l id) ∨ x ∈ l.drop (placeN l id) := by rw [← List.mem_append, List.take_append_drop]
    rw [hs]
    simp only [List.mem_append, List.mem_singleton]
    constructor
    · rintro (h | h | h)
      · exact .inl (.inr h)
      · exact .inl (.inl h)
      · exact .inr h
    · rintro ((h | h) | h)
      · exact .inr (.inl h)
      · exact .inl h
      · exact .inr (.inr h)
theorem leave_cut (id : Int) : ∀ {l : List Int}, Inc l → id ∈ l → placeN l id < l.length ∧ leaveF l id = l.take (placeN l id) ++ l.drop (placeN l id + 1)
  | [], _, h => by simp at h
  | y :: l, h, hm => by
    obtain ⟨hy, hl⟩ := List.pairwise_cons.1 h
    by_cases e : y < id
    · have hp : placeN (y :: l) id = placeN l id + 1 := by rw [placeN, List.countP_cons_of_pos (by simpa using e)]; rfl
      have hm2 : id ∈ l := by
        rcases List.mem_cons.1 hm with rfl | h
        · omega
        · exact h
      obtain ⟨h1, h2⟩ := leave_cut id hl hm2
      rw [hp, List.take_succ_cons, List.drop_succ_cons]
      refine ⟨by simp; omega, ?_⟩
      rw [leaveF, List.filter_cons, if_pos (by simp; omega)]
      rw [leaveF] at h2
      rw [h2]
      rfl
    · have hye : y = id := by
        rcases List.mem_cons.1 hm with rfl | h
        · rfl
        · have := hy id h
          omega
      subst hye
      have hp : placeN (y :: l) y = 0 := by
        rw [placeN, List.countP_eq_zero]
        intro x hx
        rcases List.mem_cons.1 hx with rfl | hx
        · simp
        · have := hy x hx
          simp
          omega
      rw [hp]
      refine ⟨by simp, ?_⟩
      rw [leaveF, List.filter_cons, if_neg (by simp), List.filter_eq_self.2 (fun x hx => by have := hy x hx; simp; omega)]
      simp
theorem sets_blk {g : Nat} {t : TypeId} : ∀ (vs : List Value) (o : Nat) (w : World) (L : List Value), w.heap[g]? = some (.cells L.toArray t (0, 0)) → o + vs.length ≤ L.length → (w.setCells g o vs).heap[g]? = some (.cells (L.take o ++ vs ++ L.drop (o + vs.length)).toArray t (0, 0))
  | [], o, w, L, h, _ => by rw [List.append_nil, List.length_nil, Nat.add_zero, List.take_append_drop]; exact h
  | v :: vs, o, w, L, h, hl => by
    rw [List.length_cons] at hl
    have h1 := blk_set h o v
    rw [List.setIfInBounds_toArray] at h1
    have h2 := sets_blk vs (o + 1) (w.setCell ⟨g, o, none⟩ v) (L.set o v) h1 (by rw [List.length_set]; omega)
    refine h2.trans ?_
    congr 3
    have hlen : (L.take o).length = o := by rw [List.length_take]; omega
    have e1 : (L.set o v).take (o + 1) = L.take o ++ [v] := by
      rw [List.set_eq_take_append_cons_drop, if_pos (by omega), List.take_append, hlen, List.take_of_length_le (by omega), show o + 1 - o = 1 by omega]
      rfl
    have e2 : (L.set o v).drop (o + 1 + vs.length) = L.drop (o + (vs.length + 1)) := by
      rw [List.drop_set_of_lt (by omega), show o + 1 + vs.length = o + (vs.length + 1) by omega]
    rw [e1, e2, List.length_cons]
    simp
end Go.Proofs.Ytpholamobedkhaa

/- The program's: members in new memory. -/
namespace Go.Proofs.Ytpholamobedkhaa
open Go.RowKit

/-- The row g, new since w0, holds the numbers l and room for one more. -/
structure Copied (w0 w : World) (g : Nat) (l : List Int) : Prop where
  blk : w.heap[g]? = some (.cells (iC (l ++ [0])).toArray 3 (0, 0))
  lo : w0.heap.size ≤ g
  bel : Below w0.heap.size w0 w
theorem OwnedI.low {B : Nat} {w0 w1 w : World} {v : Value} {zs : List Int} (h : OwnedI w1.heap.size w1 w v zs) (hb : Below B w0 w1) (hB : B ≤ w1.heap.size) : OwnedI B w0 w v zs := by
  refine ⟨⟨h.own.1, ?_⟩, hb.trans (h.bel.mono hB), Nat.le_trans hB h.le⟩
  rcases h.own.2 with hn | ⟨g, cap, cur, hv, hg, hr⟩
  · exact .inl hn
  · exact .inr ⟨g, cap, cur, hv, Nat.le_trans hB hg, hr⟩
theorem Try.size3 : (Try.prog.info? 3).map (·.size) = some 1 := by kernel_rfl
theorem run_makeI (n m : Nat) (hnm : n ≤ m) (hm : m ≤ 1000) (u : World) : (Instr.makeSlice 22 (.int .i64 (n : Int)) (.int .i64 (m : Int))).run Try.prog u = .ok (.slice (some ⟨u.heap.size, 0, none⟩) n m) (u.alloc (.cells (iC (List.replicate m 0)).toArray 3)) := by
  obtain ⟨i0, hi0, hz0, hz1, hz2⟩ := info_parts Try.info3
  have h := run_make (P := Try.prog) u 22 3 i0 (.int .i64 0) Try.underlying22 hi0 hz0 .i64 .i64 n m (by omega) (by omega) (by rw [hz2]; omega) (by omega)
  rw [hz1, Int.toNat_natCast, Int.toNat_natCast, Nat.mul_one] at h
  rw [h]
  congr 4
  apply Array.ext'
  have h2 : (Value.int .i64 0).cells = #[.int .i64 0] := rfl
  rw [h2, toList_madeCells_one]
  show _ = iC _
  rw [iC, List.map_replicate]
theorem splice_copied (l : List Int) : splice (iC (List.replicate (l.length + 1) 0)) 0 (iC l) = iC (l ++ [0]) := by
  rw [splice, iC_len, iC_app]
  simp [iC]
theorem src_ints {w : World} {a : Option Addr} {l : List Int} {X : List Value} (h : IntsIn w a l) (h0 : 0 < l.length) (hX : X = iC l) : ∃ ad, a = some ad ∧ ∀ j v, X[j]? = some v → w.cell? (ad.add j) = some v := by
  subst hX
  rcases h with h | ⟨g, off, rfl, hg, hc⟩
  · rw [h] at h0; simp at h0
  · refine ⟨_, rfl, fun j v hv => ?_⟩
    obtain ⟨z, hz, rfl⟩ := iC_back l j v hv
    rw [Addr.add_lit]
    exact hc j z hz
theorem own_of_blk {B : Nat} {w0 w : World} {g cap n : Nat} {zs : List Int} {rest : List Value} (h : w.heap[g]? = some (.cells (iC zs ++ rest).toArray 3 (0, 0))) (hB : B ≤ g) (hc : zs.length + rest.length = cap) (hm : cap ≤ maxLen) (hn : n = zs.length) (hb : Below B w0 w) : OwnedI B w0 w (.slice (some ⟨g, 0, none⟩) n cap) zs := by
  subst hn
  refine ⟨⟨by rw [iC_len, Nat.mul_one], .inr ⟨g, cap, _, rfl, hB, h, by omega, hm, by simp [iC]; omega, ?_⟩⟩, hb, by have := lt_of_blk h; omega⟩
  rw [Nat.mul_one]
  simp [iC]
theorem below_drew (B : Nat) (w : World) : Below B w w.drew := ⟨rfl, rfl, rfl, Nat.le_refl _, fun _ _ => rfl⟩
theorem below_sets {B b : Nat} {a : World} (hb : B ≤ b) : ∀ (vs : List Value) (o : Nat) (w : World), Below B a w → Below B a (w.setCells b o vs)
  | [], _, _, h => h
  | v :: vs, o, _, h => below_sets hb vs (o + 1) _ (h.setCell (p := ⟨b, o, none⟩) hb v)
theorem shift_cells (A D : List Value) (z v : Value) (p : Nat) (hA : A.length = p) :
    (((A ++ (D ++ [z])).take (p + 1) ++ D ++ (A ++ (D ++ [z])).drop (p + 1 + D.length)).take p ++ [v] ++ ((A ++ (D ++ [z])).take (p + 1) ++ D ++ (A ++ (D ++ [z])).drop (p + 1 + D.length)).drop (p + 1)) = A ++ [v] ++ D := by
  have e1 : (A ++ (D ++ [z])).drop (p + 1 + D.length) = [] := List.drop_eq_nil_of_le (by simp; omega)
  have l1 : ((A ++ (D ++ [z])).take (p + 1)).length = p + 1 := by rw [List.length_take]; simp; omega
  rw [e1, List.append_nil, List.take_append_of_le_length (by omega), List.take_take, Nat.min_eq_left (by omega), List.take_left' hA, List.drop_left' l1]
end Go.Proofs.Ytpholamobedkhaa

/- The program's: who may be a member, which members are right. -/
namespace Go.Proofs.Ytpholamobedkhaa
open Go.RowKit

def isIdB (id : Int) : Bool := decide (0 ≤ id ∧ id < 16)
theorem cisID_any (id : Int) (w : World) : Calls Try.prog 62 #[.int .i64 id] w fun e w' => e = .returned (.bool (isIdB id)) ∧ w' = w := by
  by_cases h0 : 0 ≤ id
  · by_cases h1 : id < 16
    · have HF : Hid (isIdB id = true) := hid (decide_eq_true ⟨h0, h1⟩)
      rw [HF.out]
      go_enter Try.func62, Try.ntmps62
      go_wp2
      go_ret
      exact ⟨rfl, rfl⟩
    · have HF : Hid (isIdB id = false) := hid (decide_eq_false (fun h => h1 h.2))
      rw [HF.out]
      go_enter Try.func62, Try.ntmps62
      go_wp2
      go_ret
      exact ⟨rfl, rfl⟩
  · have HF : Hid (isIdB id = false) := hid (decide_eq_false (fun h => h0 h.1))
    rw [HF.out]
    go_enter Try.func62, Try.ntmps62
    go_wp2
    go_ret
    exact ⟨rfl, rfl⟩
set_option maxRecDepth 100000 in
set_option maxHeartbeats 3200000 in
theorem careRight_any (a : Option Addr) (n cap : Nat) (l : List Int) (hn : l.length = n) (hm : n ≤ maxLen) (w : World) (hI : IntsIn w a l) :
    Calls Try.prog 47 #[.slice a n cap] w fun e w' => e = .returned (.bool (memB l)) ∧ Below w.heap.size w w' := by
  have hm2 : (n : Int) ≤ 9223372036854775807 := by unfold maxLen at hm; omega
  have HI := hid hI
  have HN := hid hn
  clear hI hm hn
  by_cases h4 : n < 4
  · have k4 : (n : Int) < 4 := by omega
    have HF : Hid (memB l = false) := hid (by rw [memB, HN.out, decide_eq_false (fun h => by omega)]; simp)
    rw [HF.out]
    go_enter Try.func47, Try.ntmps47
    go_wp2
    go_ret
    exact ⟨rfl, Below.refl _ _⟩
  by_cases h10 : 10 < n
  · have k4 : ¬ ((n : Int) < 4) := by omega
    have k10 : (10 : Int) < (n : Int) := by omega
    have HF : Hid (memB l = false) := hid (by rw [memB, HN.out, decide_eq_false (fun h => by omega)]; simp)
    rw [HF.out]
    go_enter Try.func47, Try.ntmps47
    go_wp2
    go_ret
    exact ⟨rfl, Below.refl _ _⟩
  have k4 : ¬ ((n : Int) < 4) := by omega
  have k10 : ¬ ((10 : Int) < (n : Int)) := by omega
  have HQ := hid (And.intro h4 h10)
  clear h4 h10
  go_enter Try.func47, Try.ntmps47
  go_wp2
  go_loopw [15] (fun i wr => ∃ j : Nat, j ≤ n ∧ i = .int .i64 (j : Int) ∧ okTo l j = true ∧ wr = w)
    (fun i _ => ((n : Int) - intOf i).toNat)
  case atStart => exact ⟨0, by omega, rfl, rfl, rfl⟩
  case round =>
    obtain ⟨j, hj, rfl, hok, rfl⟩ := hrel
    by_cases hjn : j = n
    · have hj1 : ¬ ((j : Int) < (n : Int)) := by omega
      rw [hjn] at hok
      have HF : Hid (memB l = true) := hid (by have hq := HQ.out; rw [memB, HN.out, hok, decide_eq_true (And.intro (by omega) (by omega))]; rfl)
      clear hok hj hjn
      go_wp2
      go_ret
      exact ⟨by rw [HF.out]; rfl, Below.refl _ _⟩
    · have hj1 : (j : Int) < (n : Int) := by omega
      have hj0 : (0 : Int) ≤ (j : Int) := Int.natCast_nonneg _
      have hget : l[j]? = some (l.getD j 0) := by rw [List.getD_eq_getElem?_getD, List.getElem?_eq_getElem (by rw [HN.out]; omega)]; rfl
      obtain ⟨g, off, rfl, hg, hcell⟩ := HI.out.at j _ hget
      obtain ⟨x, ex⟩ : ∃ x, x = l.getD j 0 := ⟨_, rfl⟩
      rw [← ex] at hcell
      clear hget
      cases hx : isIdB x with
      | false =>
        have hx2 := of_decide_eq_false hx
        have HC : Hid (∀ u : World, Calls Try.prog 62 #[.int .i64 x] u fun e w' => e = .returned (.bool false) ∧ w' = u) := hid (fun u => by rw [← hx]; exact cisID_any x u)
        have HF : Hid (okTo l n = false) := hid (okTo_false l (j + 1) n (by rw [okTo_succ, okAt_no1 l j (by rw [← ex]; exact hx2)]; simp) (by omega))
        clear hok hj hjn ex hx hx2 hg
        go_wp2_with (go_at_call 62; refine (HC.out _).mono ?_; rintro e wx ⟨rfl, rfl⟩)
        go_ret
        exact ⟨by rw [memB, HN.out, HF.out]; rfl, Below.refl _ _⟩
      | true =>
        have hx2 := of_decide_eq_true hx
        have HC : Hid (∀ u : World, Calls Try.prog 62 #[.int .i64 x] u fun e w' => e = .returned (.bool true) ∧ w' = u) := hid (fun u => by rw [← hx]; exact cisID_any x u)
        by_cases hz : j = 0
        · have d4 : ¬ ((0 : Int) < (j : Int)) := by omega
          have HF : Hid (okTo l (j + 1) = true) := hid (by rw [okTo_succ, hok, show okAt l j = true by (have hx : l.getD 0 0 = x := by rw [ex, hz]); rw [hz]; exact okAt_yes0 l (by rw [hx]; exact hx2)]; rfl)
          have HJ := hid (And.intro hj hjn)
          clear hok hj hjn ex hz hx hx2 hg
          go_wp2_with (go_at_call 62; refine (HC.out _).mono ?_; rintro e wx ⟨rfl, rfl⟩)
          go_roundw
          case rel => exact ⟨j + 1, by have := HJ.out; omega, by go_num, HF.out, by first | exact rfl | exact trivial⟩
          case measure => simp [intOf]; omega
        · obtain ⟨i, rfl⟩ : ∃ i, j = i + 1 := ⟨j - 1, by omega⟩
          have hgetp : l[i]? = some (l.getD i 0) := by rw [List.getD_eq_getElem?_getD, List.getElem?_eq_getElem (by rw [HN.out]; omega)]; rfl
          obtain ⟨g', off', eg, hg', hcellp⟩ := HI.out.at i _ hgetp
          obtain ⟨rfl, rfl⟩ : g = g' ∧ off = off' := by simp at eg; exact eg
          obtain ⟨y, ey⟩ : ∃ y, y = l.getD i 0 := ⟨_, rfl⟩
          rw [← ey] at hcellp
          have hi0 : (0 : Int) < ((i + 1 : Nat) : Int) := by omega
          have hi1 : (i : Int) < (n : Int) := by omega
          have hi2 : (0 : Int) ≤ (i : Int) := by omega
          clear hgetp eg hz hg hg' hx
          by_cases hxy : x ≤ y
          · have HF : Hid (okTo l n = false) := hid (okTo_false l (i + 1 + 1) n (by rw [okTo_succ, okAt_no2 l (i + 1) (by omega) (by rw [← ex, show i + 1 - 1 = i from rfl, ← ey]; omega)]; simp) (by omega))
            clear hok hj hjn ex ey hx2
            go_wp2_with (go_at_call 62; refine (HC.out _).mono ?_; rintro e wx ⟨rfl, rfl⟩)
            go_ret
            exact ⟨by rw [memB, HN.out, HF.out]; rfl, Below.refl _ _⟩
          · have HF : Hid (okTo l (i + 1 + 1) = true) := hid (by rw [okTo_succ, hok, okAt_yes l (i + 1) (by rw [← ex]; exact hx2) (by rw [← ex, show i + 1 - 1 = i from rfl, ← ey]; omega)]; rfl)
            have HJ := hid (And.intro hj hjn)
            clear hok hj hjn ex ey hx2
            go_wp2_with (go_at_call 62; refine (HC.out _).mono ?_; rintro e wx ⟨rfl, rfl⟩)
            go_roundw
            case rel => exact ⟨i + 1 + 1, by have := HJ.out; omega, by go_num, HF.out, by first | exact rfl | exact trivial⟩
            case measure => simp [intOf]; omega
end Go.Proofs.Ytpholamobedkhaa

/- The program's: who joins, who leaves. -/
namespace Go.Proofs.Ytpholamobedkhaa
open Go.RowKit

end Go.Proofs.Ytpholamobedkhaa

/- The program's counts. -/
namespace Go.Proofs.Ytpholamobedkhaa
open Go.RowKit

theorem cfaults_same (n : Int) (hn : n ≤ 9223372036854775807) (w : World) : Calls Try.prog 64 #[.int .i64 n] w fun e w' => e = .returned (.int .i64 (fltZ n)) ∧ w' = w := by
  by_cases h : n < 1
  · rw [fltZ_lo h]
    go_enter Try.func64, Try.ntmps64
    go_wp2
    go_ret
    exact ⟨rfl, rfl⟩
  · have HF : Hid (fltZ n = (n - 1) / 3) := hid (fltZ_hi h)
    rw [HF.out]
    go_enter Try.func64, Try.ntmps64
    go_wp2
    go_ret
    exact ⟨rfl, rfl⟩
theorem cfaults_any (n : Int) (hn : n ≤ 9223372036854775807) (w : World) : Calls Try.prog 64 #[.int .i64 n] w fun e w' => e = .returned (.int .i64 (fltZ n)) ∧ Below w.heap.size w w' :=
  (cfaults_same n hn w).mono fun _ _ ⟨h1, h2⟩ => ⟨h1, by rw [h2]; exact Below.refl _ _⟩
theorem cquorum_any (n : Int) (hn : n ≤ 9223372036854775807) (w : World) : Calls Try.prog 52 #[.int .i64 n] w fun e w' => e = .returned (.int .i64 (quoZ n)) ∧ Below w.heap.size w w' := by
  have HC : Hid (∀ u : World, Calls Try.prog 64 #[.int .i64 n] u fun e w' => e = .returned (.int .i64 (fltZ n)) ∧ w' = u) := hid (cfaults_same n hn)
  by_cases h : n < 1
  · rw [quoZ_lo h]
    go_enter Try.func52, Try.ntmps52
    go_wp2
    go_ret
    exact ⟨rfl, Below.refl _ _⟩
  · rw [quoZ_hi h]
    have hf := fltZ_le h
    generalize fltZ n = f at HC hf ⊢
    have h1 : 0 ≤ f := hf.1
    have h2 : f ≤ 4000000000000000000 := by omega
    have h3 : f ≤ n := by omega
    have HQ : Hid ((n + f) / 2 + 1 = f + (n - f) / 2 + 1) := hid (by omega)
    rw [HQ.out]
    clear hf
    go_enter Try.func52, Try.ntmps52
    go_wp2_with (go_at_call 64; refine (HC.out _).mono ?_; rintro e wx ⟨rfl, rfl⟩)
    go_ret
    exact ⟨rfl, Below.refl _ _⟩
end Go.Proofs.Ytpholamobedkhaa
