/- What a quorum committed is picked again, whatever the bad ones tell. -/
import Derived.Test.YthoofboegchodaaChYM
import Derived.Test.YthoofboegchodaaChQM
import Derived.Deep.DeepMust
import Derived.Deep.DeepCutAuto
namespace Go.Proofs.Ythoofboegchodaa
open Go.RowKit

theorem wrap_k {x : Int} (h0 : -1000 ≤ x) (h1 : x ≤ 100000) : IntKind.i64.wrap x = x := by
  simp [IntKind.wrap, IntKind.bits, IntKind.signed]
  omega
theorem pairs_ne {w : World} {a : Option Addr} {l : List (Int × ByteArray)} {z : Addr} (h : PairsIn w a l) (ha : a = some z) (hl : 0 < l.length) : z.block ≠ w.heap.size := by
  rcases h with h | ⟨g, off, ha2, hg, _⟩
  · rw [h] at hl; exact absurd hl (Nat.lt_irrefl _)
  · rw [ha] at ha2; cases ha2; exact Nat.ne_of_lt hg
theorem pairs_stayK {w w' : World} {a : Option Addr} {l : List (Int × ByteArray)} (h : PairsIn w a l) (hs : w.heap.size ≤ w'.heap.size) (hb : ∀ x, a = some x → w'.heap[x.block]? = w.heap[x.block]?) : PairsIn w' a l := by
  rcases h with h | ⟨g, off, ha, hg, hc⟩
  · exact .inl h
  · refine .inr ⟨g, off, ha, Nat.lt_of_lt_of_le hg hs, fun j s hj => ?_⟩
    have h1 := hc j s hj
    have h2 : w'.heap[g]? = w.heap[g]? := hb _ ha
    simp only [World.cell?, h2]
    exact h1
theorem ct_cells {w : World} {p : Nat} {c : Ct} {v : Value} {T : TypeId} (h : BxAt w p (ctC c v) T) : w.cell? ⟨p, 0, none⟩ = some (.int .i64 c.1) ∧ w.cell? ⟨p, 1, none⟩ = some (.int .i64 c.2.1) ∧ w.cell? ⟨p, 2, none⟩ = some (.int .i64 c.2.2.1.c) ∧ w.cell? ⟨p, 3, none⟩ = some (.int .i64 c.2.2.1.st) ∧ w.cell? ⟨p, 4, none⟩ = some (.int .i64 c.2.2.1.k) ∧ w.cell? ⟨p, 5, none⟩ = some (.string c.2.2.1.key) ∧ w.cell? ⟨p, 6, none⟩ = some (.float .f64 c.2.2.1.b) ∧ w.cell? ⟨p, 7, none⟩ = some (.int .i64 c.2.2.1.id) ∧ w.cell? ⟨p, 8, none⟩ = some v :=
  ⟨h.cell 0 _ rfl, h.cell 1 _ rfl, h.cell 2 _ rfl, h.cell 3 _ rfl, h.cell 4 _ rfl, h.cell 5 _ rfl, h.cell 6 _ rfl, h.cell 7 _ rfl, h.cell 8 _ rfl⟩
theorem al_cells {w : World} {p : Nat} {L : List Value} {T : TypeId} (h : BxAt w p L T) (o : Obj) (j : Nat) (v : Value) (hv : L[j]? = some v) : (w.alloc o).cell? ⟨p, j, none⟩ = some v ∧ (w.alloc o).frozen? ⟨p, j, none⟩ = false := by
  have h2 : BxAt (w.alloc o) p L T := h.keep ((Below.refl _ _).alloc (Nat.le_refl _) _)
  exact ⟨h2.cell j v hv, free_at h2 j⟩
theorem norm_zero : normR zeroQ = zeroQ := null_zero (by decide)
theorem own_lt {w : World} {a : Option Addr} {l : List (Int × ByteArray)} {z : Addr} (h : PairsIn w a l) (ha : a = some z) (hl : 0 < l.length) : z.block < w.heap.size := by
  rcases h with h | ⟨g, off, ha2, hg, _⟩
  · rw [h] at hl; exact absurd hl (Nat.lt_irrefl _)
  · rw [ha] at ha2; cases ha2; exact hg
theorem ints_take {w : World} {a : Option Addr} {l : List Int} (h : IntsIn w a l) (k : Nat) : IntsIn w a (l.take k) := by
  rcases h with h | ⟨g, off, ha, hg, hc⟩
  · exact .inl (by rw [h]; simp)
  · refine .inr ⟨g, off, ha, hg, fun j s hj => hc j s ?_⟩
    rw [List.getElem?_take] at hj
    split at hj
    · exact hj
    · cases hj
set_option maxRecDepth 100000 in
set_option maxHeartbeats 3200000 in
theorem keeps_no (ep : Int) (am : Option Addr) (nm cm : Nat) (m : List Int) (hn : m.length = nm) (hnm : nm ≤ maxLen) (_hcm : nm ≤ cm) (V Wh : Int) (ab : Option Addr) (nb cb : Nat) (bad : List Int) (_hnb : bad.length = nb) (_hnbm : nb ≤ maxLen) (r : Rq) (_hrR : rqR r) (aL : Option Addr) (nL cL : Nat) (lies : List Ct) (_hnL : lies.length = nL) (_hLm : nL ≤ maxLen) (_hLR : ∀ z, z ∈ lies → ctR z) (w : World) (hI : IntsIn w am m) (_hB : IntsIn w ab bad) (_hL : Reads (fun k => k < w.heap.size) w (.slice aL nL cL) (dCts lies)) (hno : rightC ep m = false ∨ (rightC ep m = true ∧ rightB r = false) ∨ (rightC ep m = true ∧ rightB r = true ∧ V < 0) ∨ (rightC ep m = true ∧ rightB r = true ∧ 15 ≤ V)) :
    Calls Try.prog 7 #[.agg #[.int .i64 ep, .slice am nm cm], .agg #[.int .i64 V, .int .i64 Wh, .slice ab nb cb, .int .i64 r.c, .int .i64 r.st, .int .i64 r.k, .string r.key, .int .u64 (r.b : Int), .int .i64 r.id, .slice aL nL cL]] w fun e w' => e = .returned (.bool true) ∧ Below w.heap.size w w' := by
  have HLv : Hid (∀ u : World, Calls Try.prog 9 #[] u fun e w' => e = .returned (.bool true) ∧ Below u.heap.size u w') := hid ulives_any
  have H0 : Hid (BxAt ((w.alloc (.cells #[.int .i64 ep, .slice am nm cm] 34)).alloc (.cells #[.int .i64 V, .int .i64 Wh, .slice ab nb cb, .int .i64 r.c, .int .i64 r.st, .int .i64 r.k, .string r.key, .int .u64 (r.b : Int), .int .i64 r.id, .slice aL nL cL] 59)) w.heap.size [.int .i64 ep, .slice am nm cm] 34 ∧ BxAt ((w.alloc (.cells #[.int .i64 ep, .slice am nm cm] 34)).alloc (.cells #[.int .i64 V, .int .i64 Wh, .slice ab nb cb, .int .i64 r.c, .int .i64 r.st, .int .i64 r.k, .string r.key, .int .u64 (r.b : Int), .int .i64 r.id, .slice aL nL cL] 59)) (w.heap.size + 1) [.int .i64 V, .int .i64 Wh, .slice ab nb cb, .int .i64 r.c, .int .i64 r.st, .int .i64 r.k, .string r.key, .int .u64 (r.b : Int), .int .i64 r.id, .slice aL nL cL] 59 ∧ Below w.heap.size w ((w.alloc (.cells #[.int .i64 ep, .slice am nm cm] 34)).alloc (.cells #[.int .i64 V, .int .i64 Wh, .slice ab nb cb, .int .i64 r.c, .int .i64 r.st, .int .i64 r.k, .string r.key, .int .u64 (r.b : Int), .int .i64 r.id, .slice aL nL cL] 59))) := hid ⟨(Below.heap_alloc _ _ _ (by simp)).trans (heap_alloc_last w _), snd_alloc _ _ _, ((Below.refl _ _).alloc (Nat.le_refl _) _).alloc (by simp) _⟩
  have HRq : Hid (∀ u : World, Calls Try.prog 18 #[.agg #[.int .i64 r.c, .int .i64 r.st, .int .i64 r.k, .string r.key, .int .u64 (r.b : Int), .int .i64 r.id]] u fun e w' => e = .returned (.agg #[.int .i64 r.c, .int .i64 r.st, .int .i64 r.k, .string r.key, .float .f64 r.b, .int .i64 r.id]) ∧ Below u.heap.size u w') := hid (fun u => drequest_any r u)
  have HCr : Hid (∀ u : World, Below w.heap.size w u → Calls Try.prog 19 #[.agg #[.int .i64 ep, .slice am nm cm]] u fun e w' => e = .returned (.bool (rightC ep m)) ∧ Below u.heap.size u w') := hid (fun u hu => cright_any ep am nm cm m hn hnm u (hI.keep hu (Nat.le_refl _)))
  have HQr : Hid (∀ u : World, Calls Try.prog 20 #[.agg #[.int .i64 r.c, .int .i64 r.st, .int .i64 r.k, .string r.key, .float .f64 r.b, .int .i64 r.id]] u fun e w' => e = .returned (.bool (rightB r)) ∧ Below u.heap.size u w') := hid (fun u => qright_any r u)
  clear hI _hB _hL _hcm _hnb _hnbm _hrR _hnL _hLm _hLR
  rcases hno with h1 | ⟨h1, h2⟩ | ⟨h1, h2, h3⟩ | ⟨h1, h2, h3⟩
  · rw [h1] at HCr
    clear h1
    go_enter Try.func7, Try.ntmps7
    go_wp2_with (first
    | (go_at_call 9; go_must (refine (HLv.out _).mono ?_); rintro e w1 ⟨rfl, hb1⟩; have H1 : Hid (BxAt w1 w.heap.size [.int .i64 ep, .slice am nm cm] 34 ∧ BxAt w1 (w.heap.size + 1) [.int .i64 V, .int .i64 Wh, .slice ab nb cb, .int .i64 r.c, .int .i64 r.st, .int .i64 r.k, .string r.key, .int .u64 (r.b : Int), .int .i64 r.id, .slice aL nL cL] 59 ∧ Below w.heap.size w w1) := hid ⟨H0.out.1.keep hb1, H0.out.2.1.keep hb1, H0.out.2.2.trans (hb1.mono H0.out.2.2.size)⟩; clear hb1; have t3 := H1.out.2.1.cell 3 _ rfl; have t4 := H1.out.2.1.cell 4 _ rfl; have t5 := H1.out.2.1.cell 5 _ rfl; have t6 := H1.out.2.1.cell 6 _ rfl; have t7 := H1.out.2.1.cell 7 _ rfl; have t8 := H1.out.2.1.cell 8 _ rfl)
    | (go_at_call 18; go_must (refine (HRq.out _).mono ?_); rintro e w2 ⟨rfl, hb2⟩; have H2 : Hid (BxAt w2 w.heap.size [.int .i64 ep, .slice am nm cm] 34 ∧ BxAt w2 (w.heap.size + 1) [.int .i64 V, .int .i64 Wh, .slice ab nb cb, .int .i64 r.c, .int .i64 r.st, .int .i64 r.k, .string r.key, .int .u64 (r.b : Int), .int .i64 r.id, .slice aL nL cL] 59 ∧ Below w.heap.size w w2) := hid ⟨H1.out.1.keep hb2, H1.out.2.1.keep hb2, H1.out.2.2.trans (hb2.mono H1.out.2.2.size)⟩; clear hb2 t3 t4 t5 t6 t7 t8)
    | (refine wl_store_rq rfl _ _ rfl w2.heap.size rfl zeroQ r rfl (heap_alloc_last w2 _) ?_; intro w3 Hq; go_must (have H3 : Hid (KpB w w3 ep (.slice am nm cm) V Wh (.slice ab nb cb) r (.slice aL nL cL) w2.heap.size) := hid (by have hb : Below w2.heap.size w2 w3 := Hq.out.2.below ((Below.refl w2.heap.size w2).alloc (Nat.le_refl _) _) (Nat.le_refl _); exact ⟨H2.out.1.keep hb, H2.out.2.1.keep hb, Hq.out.1, H2.out.2.2.trans (hb.mono H2.out.2.2.size)⟩)); clear Hq; have c0 := H3.out.cf.cell 0 _ rfl; have c1 := H3.out.cf.cell 1 _ rfl)
    | (go_at_call 19; go_must (refine (HCr.out _ H3.out.bel).mono ?_); rintro e w4 ⟨rfl, hb4⟩; have H4 := hid (H3.out.keep hb4); clear hb4 c0 c1)
    | (go_at_call 20; go_must (refine (HQr.out _).mono ?_); rintro e w5 ⟨rfl, hb5⟩; have H5 := hid (H4.out.keep hb5); clear hb5 q0 q1 q2 q3 q4 q5; have t0 := H5.out.tl.cell 0 _ rfl)
)
    go_ret
    exact ⟨rfl, H4.out.bel⟩
  · rw [h1] at HCr
    rw [h2] at HQr
    clear h1 h2
    go_enter Try.func7, Try.ntmps7
    go_wp2_with (first
    | (go_at_call 9; go_must (refine (HLv.out _).mono ?_); rintro e w1 ⟨rfl, hb1⟩; have H1 : Hid (BxAt w1 w.heap.size [.int .i64 ep, .slice am nm cm] 34 ∧ BxAt w1 (w.heap.size + 1) [.int .i64 V, .int .i64 Wh, .slice ab nb cb, .int .i64 r.c, .int .i64 r.st, .int .i64 r.k, .string r.key, .int .u64 (r.b : Int), .int .i64 r.id, .slice aL nL cL] 59 ∧ Below w.heap.size w w1) := hid ⟨H0.out.1.keep hb1, H0.out.2.1.keep hb1, H0.out.2.2.trans (hb1.mono H0.out.2.2.size)⟩; clear hb1; have t3 := H1.out.2.1.cell 3 _ rfl; have t4 := H1.out.2.1.cell 4 _ rfl; have t5 := H1.out.2.1.cell 5 _ rfl; have t6 := H1.out.2.1.cell 6 _ rfl; have t7 := H1.out.2.1.cell 7 _ rfl; have t8 := H1.out.2.1.cell 8 _ rfl)
    | (go_at_call 18; go_must (refine (HRq.out _).mono ?_); rintro e w2 ⟨rfl, hb2⟩; have H2 : Hid (BxAt w2 w.heap.size [.int .i64 ep, .slice am nm cm] 34 ∧ BxAt w2 (w.heap.size + 1) [.int .i64 V, .int .i64 Wh, .slice ab nb cb, .int .i64 r.c, .int .i64 r.st, .int .i64 r.k, .string r.key, .int .u64 (r.b : Int), .int .i64 r.id, .slice aL nL cL] 59 ∧ Below w.heap.size w w2) := hid ⟨H1.out.1.keep hb2, H1.out.2.1.keep hb2, H1.out.2.2.trans (hb2.mono H1.out.2.2.size)⟩; clear hb2 t3 t4 t5 t6 t7 t8)
    | (refine wl_store_rq rfl _ _ rfl w2.heap.size rfl zeroQ r rfl (heap_alloc_last w2 _) ?_; intro w3 Hq; go_must (have H3 : Hid (KpB w w3 ep (.slice am nm cm) V Wh (.slice ab nb cb) r (.slice aL nL cL) w2.heap.size) := hid (by have hb : Below w2.heap.size w2 w3 := Hq.out.2.below ((Below.refl w2.heap.size w2).alloc (Nat.le_refl _) _) (Nat.le_refl _); exact ⟨H2.out.1.keep hb, H2.out.2.1.keep hb, Hq.out.1, H2.out.2.2.trans (hb.mono H2.out.2.2.size)⟩)); clear Hq; have c0 := H3.out.cf.cell 0 _ rfl; have c1 := H3.out.cf.cell 1 _ rfl)
    | (go_at_call 19; go_must (refine (HCr.out _ H3.out.bel).mono ?_); rintro e w4 ⟨rfl, hb4⟩; have H4 := hid (H3.out.keep hb4); clear hb4 c0 c1; obtain ⟨⟨q0, q1⟩, q2, q3, q4, q5⟩ := H4.out.rq.cells)
    | (go_at_call 20; go_must (refine (HQr.out _).mono ?_); rintro e w5 ⟨rfl, hb5⟩; have H5 := hid (H4.out.keep hb5); clear hb5 q0 q1 q2 q3 q4 q5; have t0 := H5.out.tl.cell 0 _ rfl)
)
    go_ret
    exact ⟨rfl, H5.out.bel⟩
  · rw [h1] at HCr
    rw [h2] at HQr
    clear h1 h2
    go_enter Try.func7, Try.ntmps7
    go_wp2_with (first
    | (go_at_call 9; go_must (refine (HLv.out _).mono ?_); rintro e w1 ⟨rfl, hb1⟩; have H1 : Hid (BxAt w1 w.heap.size [.int .i64 ep, .slice am nm cm] 34 ∧ BxAt w1 (w.heap.size + 1) [.int .i64 V, .int .i64 Wh, .slice ab nb cb, .int .i64 r.c, .int .i64 r.st, .int .i64 r.k, .string r.key, .int .u64 (r.b : Int), .int .i64 r.id, .slice aL nL cL] 59 ∧ Below w.heap.size w w1) := hid ⟨H0.out.1.keep hb1, H0.out.2.1.keep hb1, H0.out.2.2.trans (hb1.mono H0.out.2.2.size)⟩; clear hb1; have t3 := H1.out.2.1.cell 3 _ rfl; have t4 := H1.out.2.1.cell 4 _ rfl; have t5 := H1.out.2.1.cell 5 _ rfl; have t6 := H1.out.2.1.cell 6 _ rfl; have t7 := H1.out.2.1.cell 7 _ rfl; have t8 := H1.out.2.1.cell 8 _ rfl)
    | (go_at_call 18; go_must (refine (HRq.out _).mono ?_); rintro e w2 ⟨rfl, hb2⟩; have H2 : Hid (BxAt w2 w.heap.size [.int .i64 ep, .slice am nm cm] 34 ∧ BxAt w2 (w.heap.size + 1) [.int .i64 V, .int .i64 Wh, .slice ab nb cb, .int .i64 r.c, .int .i64 r.st, .int .i64 r.k, .string r.key, .int .u64 (r.b : Int), .int .i64 r.id, .slice aL nL cL] 59 ∧ Below w.heap.size w w2) := hid ⟨H1.out.1.keep hb2, H1.out.2.1.keep hb2, H1.out.2.2.trans (hb2.mono H1.out.2.2.size)⟩; clear hb2 t3 t4 t5 t6 t7 t8)
    | (refine wl_store_rq rfl _ _ rfl w2.heap.size rfl zeroQ r rfl (heap_alloc_last w2 _) ?_; intro w3 Hq; go_must (have H3 : Hid (KpB w w3 ep (.slice am nm cm) V Wh (.slice ab nb cb) r (.slice aL nL cL) w2.heap.size) := hid (by have hb : Below w2.heap.size w2 w3 := Hq.out.2.below ((Below.refl w2.heap.size w2).alloc (Nat.le_refl _) _) (Nat.le_refl _); exact ⟨H2.out.1.keep hb, H2.out.2.1.keep hb, Hq.out.1, H2.out.2.2.trans (hb.mono H2.out.2.2.size)⟩)); clear Hq; have c0 := H3.out.cf.cell 0 _ rfl; have c1 := H3.out.cf.cell 1 _ rfl)
    | (go_at_call 19; go_must (refine (HCr.out _ H3.out.bel).mono ?_); rintro e w4 ⟨rfl, hb4⟩; have H4 := hid (H3.out.keep hb4); clear hb4 c0 c1; obtain ⟨⟨q0, q1⟩, q2, q3, q4, q5⟩ := H4.out.rq.cells)
    | (go_at_call 20; go_must (refine (HQr.out _).mono ?_); rintro e w5 ⟨rfl, hb5⟩; have H5 := hid (H4.out.keep hb5); clear hb5 q0 q1 q2 q3 q4 q5; have t0 := H5.out.tl.cell 0 _ rfl)
)
    go_ret
    exact ⟨rfl, H5.out.bel⟩
  · have h4 : ¬ V < 0 := by omega
    rw [h1] at HCr
    rw [h2] at HQr
    clear h1 h2
    go_enter Try.func7, Try.ntmps7
    go_wp2_with (first
    | (go_at_call 9; go_must (refine (HLv.out _).mono ?_); rintro e w1 ⟨rfl, hb1⟩; have H1 : Hid (BxAt w1 w.heap.size [.int .i64 ep, .slice am nm cm] 34 ∧ BxAt w1 (w.heap.size + 1) [.int .i64 V, .int .i64 Wh, .slice ab nb cb, .int .i64 r.c, .int .i64 r.st, .int .i64 r.k, .string r.key, .int .u64 (r.b : Int), .int .i64 r.id, .slice aL nL cL] 59 ∧ Below w.heap.size w w1) := hid ⟨H0.out.1.keep hb1, H0.out.2.1.keep hb1, H0.out.2.2.trans (hb1.mono H0.out.2.2.size)⟩; clear hb1; have t3 := H1.out.2.1.cell 3 _ rfl; have t4 := H1.out.2.1.cell 4 _ rfl; have t5 := H1.out.2.1.cell 5 _ rfl; have t6 := H1.out.2.1.cell 6 _ rfl; have t7 := H1.out.2.1.cell 7 _ rfl; have t8 := H1.out.2.1.cell 8 _ rfl)
    | (go_at_call 18; go_must (refine (HRq.out _).mono ?_); rintro e w2 ⟨rfl, hb2⟩; have H2 : Hid (BxAt w2 w.heap.size [.int .i64 ep, .slice am nm cm] 34 ∧ BxAt w2 (w.heap.size + 1) [.int .i64 V, .int .i64 Wh, .slice ab nb cb, .int .i64 r.c, .int .i64 r.st, .int .i64 r.k, .string r.key, .int .u64 (r.b : Int), .int .i64 r.id, .slice aL nL cL] 59 ∧ Below w.heap.size w w2) := hid ⟨H1.out.1.keep hb2, H1.out.2.1.keep hb2, H1.out.2.2.trans (hb2.mono H1.out.2.2.size)⟩; clear hb2 t3 t4 t5 t6 t7 t8)
    | (refine wl_store_rq rfl _ _ rfl w2.heap.size rfl zeroQ r rfl (heap_alloc_last w2 _) ?_; intro w3 Hq; go_must (have H3 : Hid (KpB w w3 ep (.slice am nm cm) V Wh (.slice ab nb cb) r (.slice aL nL cL) w2.heap.size) := hid (by have hb : Below w2.heap.size w2 w3 := Hq.out.2.below ((Below.refl w2.heap.size w2).alloc (Nat.le_refl _) _) (Nat.le_refl _); exact ⟨H2.out.1.keep hb, H2.out.2.1.keep hb, Hq.out.1, H2.out.2.2.trans (hb.mono H2.out.2.2.size)⟩)); clear Hq; have c0 := H3.out.cf.cell 0 _ rfl; have c1 := H3.out.cf.cell 1 _ rfl)
    | (go_at_call 19; go_must (refine (HCr.out _ H3.out.bel).mono ?_); rintro e w4 ⟨rfl, hb4⟩; have H4 := hid (H3.out.keep hb4); clear hb4 c0 c1; obtain ⟨⟨q0, q1⟩, q2, q3, q4, q5⟩ := H4.out.rq.cells)
    | (go_at_call 20; go_must (refine (HQr.out _).mono ?_); rintro e w5 ⟨rfl, hb5⟩; have H5 := hid (H4.out.keep hb5); clear hb5 q0 q1 q2 q3 q4 q5; have t0 := H5.out.tl.cell 0 _ rfl)
)
    go_ret
    exact ⟨rfl, H5.out.bel⟩
set_option maxRecDepth 100000 in
set_option maxHeartbeats 100000000 in
theorem keeps_go (ep : Int) (am : Option Addr) (nm cm : Nat) (m : List Int) (hn : m.length = nm) (hnm : nm ≤ maxLen) (hcm : nm ≤ cm) (V Wh : Int) (ab : Option Addr) (nb cb : Nat) (bad : List Int) (hnb : bad.length = nb) (hnbm : nb ≤ maxLen) (r : Rq) (hrR : rqR r) (aL : Option Addr) (nL cL : Nat) (lies : List Ct) (hnL : lies.length = nL) (hLm : nL ≤ maxLen) (hLR : ∀ z, z ∈ lies → ctR z) (w : World) (hI : IntsIn w am m) (hB : IntsIn w ab bad) (hL : Reads (fun k => k < w.heap.size) w (.slice aL nL cL) (dCts lies)) (h1 : rightC ep m = true) (h2 : rightB r = true) (hV : 0 ≤ V ∧ V < 15) :
    Calls Try.prog 7 #[.agg #[.int .i64 ep, .slice am nm cm], .agg #[.int .i64 V, .int .i64 Wh, .slice ab nb cb, .int .i64 r.c, .int .i64 r.st, .int .i64 r.k, .string r.key, .int .u64 (r.b : Int), .int .i64 r.id, .slice aL nL cL]] w fun e w' => e = .returned (.bool true) ∧ Below w.heap.size w w' := by
  have hml := mem_len (rightC_ep h1).2
  have hin := mem_in (rightC_ep h1).2
  have hep := (rightC_ep h1).1
  obtain ⟨q, f, hq, hf, hqm, hmf, hq3⟩ := quo_facts m.length hml
  have HLv : Hid (∀ u : World, Calls Try.prog 9 #[] u fun e w' => e = .returned (.bool true) ∧ Below u.heap.size u w') := hid ulives_any
  have H0 : Hid (BxAt ((w.alloc (.cells #[.int .i64 ep, .slice am nm cm] 34)).alloc (.cells #[.int .i64 V, .int .i64 Wh, .slice ab nb cb, .int .i64 r.c, .int .i64 r.st, .int .i64 r.k, .string r.key, .int .u64 (r.b : Int), .int .i64 r.id, .slice aL nL cL] 59)) w.heap.size [.int .i64 ep, .slice am nm cm] 34 ∧ BxAt ((w.alloc (.cells #[.int .i64 ep, .slice am nm cm] 34)).alloc (.cells #[.int .i64 V, .int .i64 Wh, .slice ab nb cb, .int .i64 r.c, .int .i64 r.st, .int .i64 r.k, .string r.key, .int .u64 (r.b : Int), .int .i64 r.id, .slice aL nL cL] 59)) (w.heap.size + 1) [.int .i64 V, .int .i64 Wh, .slice ab nb cb, .int .i64 r.c, .int .i64 r.st, .int .i64 r.k, .string r.key, .int .u64 (r.b : Int), .int .i64 r.id, .slice aL nL cL] 59 ∧ Below w.heap.size w ((w.alloc (.cells #[.int .i64 ep, .slice am nm cm] 34)).alloc (.cells #[.int .i64 V, .int .i64 Wh, .slice ab nb cb, .int .i64 r.c, .int .i64 r.st, .int .i64 r.k, .string r.key, .int .u64 (r.b : Int), .int .i64 r.id, .slice aL nL cL] 59))) := hid ⟨(Below.heap_alloc _ _ _ (by simp)).trans (heap_alloc_last w _), snd_alloc _ _ _, ((Below.refl _ _).alloc (Nat.le_refl _) _).alloc (by simp) _⟩
  have HRq : Hid (∀ u : World, Calls Try.prog 18 #[.agg #[.int .i64 r.c, .int .i64 r.st, .int .i64 r.k, .string r.key, .int .u64 (r.b : Int), .int .i64 r.id]] u fun e w' => e = .returned (.agg #[.int .i64 r.c, .int .i64 r.st, .int .i64 r.k, .string r.key, .float .f64 r.b, .int .i64 r.id]) ∧ Below u.heap.size u w') := hid (fun u => drequest_any r u)
  have HCr : Hid (∀ u : World, Below w.heap.size w u → Calls Try.prog 19 #[.agg #[.int .i64 ep, .slice am nm cm]] u fun e w' => e = .returned (.bool (rightC ep m)) ∧ Below u.heap.size u w') := hid (fun u hu => cright_any ep am nm cm m hn hnm u (hI.keep hu (Nat.le_refl _)))
  have HQr : Hid (∀ u : World, Calls Try.prog 20 #[.agg #[.int .i64 r.c, .int .i64 r.st, .int .i64 r.k, .string r.key, .float .f64 r.b, .int .i64 r.id]] u fun e w' => e = .returned (.bool (rightB r)) ∧ Below u.heap.size u w') := hid (fun u => qright_any r u)
  rw [h1] at HCr
  rw [h2] at HQr
  have HHs : Hid (∀ (u : World) (x : Int), Below w.heap.size w u → Calls Try.prog 21 #[.slice ab nb cb, .int .i64 x] u fun e w' => e = .returned (.bool (hasM bad x)) ∧ Below u.heap.size u w') := hid (fun u x hu => (vhas_any ab nb cb bad hnb hnbm x u (hB.keep hu (Nat.le_refl _))).mono fun _ _ ⟨k1, k2⟩ => ⟨k1, k2 ▸ Below.refl _ _⟩)
  have HFl : Hid (∀ u : World, Calls Try.prog 22 #[.int .i64 (nm : Int)] u fun e w' => e = .returned (.int .i64 (f : Int)) ∧ Below u.heap.size u w') := hid (fun u => by rw [← hn, ← hf]; exact cfaults_any (m.length : Int) (by omega) u)
  have HQu : Hid (∀ u : World, Calls Try.prog 23 #[.int .i64 (nm : Int)] u fun e w' => e = .returned (.int .i64 (q : Int)) ∧ Below u.heap.size u w') := hid (fun u => by rw [← hn, ← hq]; exact cquorum_any (m.length : Int) (by omega) u)
  have HCt : Hid (∀ (u : World) (v : Int) (x : Rq), rqR x → Below w.heap.size w u → Calls Try.prog 24 #[.int .i64 ep, .int .i64 v, .int .i64 (4 * ep + 2), .agg #[.int .i64 x.c, .int .i64 x.st, .int .i64 x.k, .string x.key, .float .f64 x.b, .int .i64 x.id], .slice am q cm] u fun e w' => ∃ ad cp, e = .returned (.agg #[.int .i64 v, .int .i64 (4 * ep + 2), .int .i64 x.c, .int .i64 x.st, .int .i64 x.k, .string x.key, .float .f64 x.b, .int .i64 x.id, .slice ad q cp]) ∧ PairsIn w' ad (mkC ep m q v x).2.2.2 ∧ (∀ z, ad = some z → u.heap.size ≤ z.block) ∧ Below u.heap.size u w') := hid (fun u v x hx hu => ucert_any ep v (4 * ep + 2) x hx.2.2.2 am q cm (m.take q) (by rw [List.length_take]; omega) (by omega) u (ints_take (hI.keep hu (Nat.le_refl _)) q))
  have hw4 : IntKind.i64.wrap (4 * ep) = 4 * ep := wrap_k (by omega) (by omega)
  have hw5 : IntKind.i64.wrap (4 * ep + 2) = 4 * ep + 2 := wrap_k (by omega) (by omega)
  have hw6 : IntKind.i64.wrap (V + 1) = V + 1 := wrap_k (by omega) (by omega)
  have hV0 : ¬ V < 0 := by omega
  have hV1 : ¬ 15 ≤ V := by omega
  have hnm10 : (nm : Int) ≤ 10 := by omega
  have HI := hid (And.intro hI (And.intro hL hn))
  have HP := hid (And.intro h1 (And.intro h2 (And.intro hV (And.intro hep (And.intro hml (And.intro hin (And.intro hq (And.intro hqm (And.intro hmf (And.intro hrR (And.intro hLR hcm)))))))))))
  have HLn := hid (And.intro hnL hLm)
  have HQ3 := hid hq3
  clear hI hB hL hml hin h1 h2 hV hep hq hf hqm hmf hrR hLR hnL hLm hnb hnbm hnm hq3 hcm
  go_enter Try.func7, Try.ntmps7
  go_wp2_with (first
    | (go_at_call 9; go_must (refine (HLv.out _).mono ?_); rintro e w1 ⟨rfl, hb1⟩; have H1 : Hid (BxAt w1 w.heap.size [.int .i64 ep, .slice am nm cm] 34 ∧ BxAt w1 (w.heap.size + 1) [.int .i64 V, .int .i64 Wh, .slice ab nb cb, .int .i64 r.c, .int .i64 r.st, .int .i64 r.k, .string r.key, .int .u64 (r.b : Int), .int .i64 r.id, .slice aL nL cL] 59 ∧ Below w.heap.size w w1) := hid ⟨H0.out.1.keep hb1, H0.out.2.1.keep hb1, H0.out.2.2.trans (hb1.mono H0.out.2.2.size)⟩; clear hb1; have t3 := H1.out.2.1.cell 3 _ rfl; have t4 := H1.out.2.1.cell 4 _ rfl; have t5 := H1.out.2.1.cell 5 _ rfl; have t6 := H1.out.2.1.cell 6 _ rfl; have t7 := H1.out.2.1.cell 7 _ rfl; have t8 := H1.out.2.1.cell 8 _ rfl)
    | (go_at_call 18; go_must (refine (HRq.out _).mono ?_); rintro e w2 ⟨rfl, hb2⟩; have H2 : Hid (BxAt w2 w.heap.size [.int .i64 ep, .slice am nm cm] 34 ∧ BxAt w2 (w.heap.size + 1) [.int .i64 V, .int .i64 Wh, .slice ab nb cb, .int .i64 r.c, .int .i64 r.st, .int .i64 r.k, .string r.key, .int .u64 (r.b : Int), .int .i64 r.id, .slice aL nL cL] 59 ∧ Below w.heap.size w w2) := hid ⟨H1.out.1.keep hb2, H1.out.2.1.keep hb2, H1.out.2.2.trans (hb2.mono H1.out.2.2.size)⟩; clear hb2 t3 t4 t5 t6 t7 t8)
    | (refine wl_store_rq rfl _ _ rfl w2.heap.size rfl zeroQ r rfl (heap_alloc_last w2 _) ?_; intro w3 Hq; go_must (have H3 : Hid (KpB w w3 ep (.slice am nm cm) V Wh (.slice ab nb cb) r (.slice aL nL cL) w2.heap.size) := hid (by have hb : Below w2.heap.size w2 w3 := Hq.out.2.below ((Below.refl w2.heap.size w2).alloc (Nat.le_refl _) _) (Nat.le_refl _); exact ⟨H2.out.1.keep hb, H2.out.2.1.keep hb, Hq.out.1, H2.out.2.2.trans (hb.mono H2.out.2.2.size)⟩)); clear Hq; have c0 := H3.out.cf.cell 0 _ rfl; have c1 := H3.out.cf.cell 1 _ rfl)
    | (go_at_call 19; go_must (refine (HCr.out _ H3.out.bel).mono ?_); rintro e w4 ⟨rfl, hb4⟩; have H4 := hid (H3.out.keep hb4); clear hb4 c0 c1; obtain ⟨⟨q0, q1⟩, q2, q3, q4, q5⟩ := H4.out.rq.cells)
    | (go_at_call 20; go_must (refine (HQr.out _).mono ?_); rintro e w5 ⟨rfl, hb5⟩; have H5 := hid (H4.out.keep hb5); clear hb5 q0 q1 q2 q3 q4 q5; have t0 := H5.out.tl.cell 0 _ rfl)
)
  generalize w2.heap.size = pr at H5 ⊢
  clear t0 H0 H1 H2 H3 H4
  go_loopw [6, 7] (fun b i wr => ∃ j : Nat, j ≤ nm ∧ i = .int .i64 (j : Int) ∧ b = .int .i64 (((m.take j).countP fun x => hasM bad x : Nat) : Int) ∧ KpB w wr ep (.slice am nm cm) V Wh (.slice ab nb cb) r (.slice aL nL cL) pr) (fun _ i _ => ((nm : Int) - intOf i).toNat)
  case atStart => exact ⟨0, Nat.zero_le _, rfl, rfl, H5.out⟩
  case round =>
    obtain ⟨j, hj, rfl, rfl, hst⟩ := hrel
    have hj0 : (0 : Int) ≤ (j : Int) := Int.natCast_nonneg _
    have c1 := hst.cf.cell 1 _ rfl
    have hcb : (m.take j).countP (fun x => hasM bad x) ≤ 10 := Nat.le_trans List.countP_le_length (by rw [List.length_take]; have := HP.out.2.2.2.2.1; omega)
    by_cases hjn : j = nm
    · have hj1 : ¬ ((j : Int) < (nm : Int)) := by omega
      have htk : m.take j = m := by rw [hjn, ← HI.out.2.2, List.take_length]
      rw [htk] at hcb ⊢
      have HS := hid hst
      obtain ⟨C, eC⟩ : ∃ C, C = m.countP fun x => hasM bad x := ⟨_, rfl⟩
      rw [← eC] at hcb ⊢
      have HCb := hid eC
      clear hst hj hjn htk eC
      by_cases hbf : f < C
      · have hbi : (f : Int) < (C : Int) := by omega
        clear hbf
        go_wp2_with (first
          | (go_at_call 22; go_must (refine (HFl.out _).mono ?_); rintro e w6 ⟨rfl, hb6⟩; have H6 := hid (HS.out.keep hb6); clear hb6))
        go_ret
        exact ⟨rfl, H6.out.bel⟩
      · have hbi : ¬ (f : Int) < (C : Int) := by omega
        have HCf : Hid (C ≤ f) := hid (by omega)
        clear hbf
        go_upto_region 16 with (first
          | (go_at_call 22; go_must (refine (HFl.out _).mono ?_); rintro e w6 ⟨rfl, hb6⟩; have H6 := hid (HS.out.keep hb6); clear hb6 c1; have c1 := H6.out.cf.cell 1 _ rfl)
          | (go_at_call 23; go_must (refine (HQu.out _).mono ?_); rintro e w7 ⟨rfl, hb7⟩; have H7 := hid (H6.out.keep hb7); clear hb7 c1; have c0 := H7.out.cf.cell 0 _ rfl))
        go_cut [10] (fun v10 wx => ∃ po ao co, v10 = .pointer (some ⟨po, 0, none⟩) ∧ KpB w wx ep (.slice am nm cm) V Wh (.slice ab nb cb) r (.slice aL nL cL) pr ∧ BxAt wx po (ctC (mkC ep m q V r) (.slice ao q co)) 52 ∧ PairsIn wx ao (mkC ep m q V r).2.2.2)
        case first =>
          have hqc : (q : Int) ≤ (cm : Int) := by have := HP.out.2.2.2.2.2.2.2.1; have := HI.out.2.2; have := HP.out.2.2.2.2.2.2.2.2.2.2.2; omega
          have hqc2 : q ≤ cm := by omega
          have hq0 : (0 : Int) ≤ (q : Int) := Int.natCast_nonneg _
          have HSd : Hid (KpB w w7.drew ep (.slice am nm cm) V Wh (.slice ab nb cb) r (.slice aL nL cL) pr) := hid (H7.out.keep ((Below.refl w7.heap.size w7).drew))
          refine wp_region_G (S := fun ww => KpB w ww ep (.slice am nm cm) V Wh (.slice ab nb cb) r (.slice aL nL cL) pr) (ex := []) (by kernel_rfl) ?_
          try (change wpAnyG _ _ _ _ _ _ _ _ _ (World.drew _))
          refine wpAnyG_take (i := 0) (v := ?v1) rfl (by kernel_rfl) (fun _ _ _ h => h) (Or.inl ⟨by rfl, ?hy1⟩) HSd.out ?rest1
          case hy1 => (intro ww _; go_simp; try with_reducible rfl)
          go_simp
          refine wpAnyG_take (i := 1) (v := ?v2) rfl (by kernel_rfl) (fun _ _ _ h => h) (Or.inl ⟨by rfl, ?hy2⟩) HSd.out ?rest2
          case hy2 => (intro ww hS; have y := hS.cf.cell 0 _ rfl; go_simp; try with_reducible rfl)
          go_simp
          refine wpAnyG_take (i := 2) (v := ?v3) rfl (by kernel_rfl) (fun _ _ _ h => h) (Or.inl ⟨by rfl, ?hy3⟩) HSd.out ?rest3
          case hy3 => (intro ww _; go_simp; try with_reducible rfl)
          go_simp
          refine wpAnyG_take (i := 3) (v := ?v4) rfl (by kernel_rfl) (fun _ _ _ h => h) (Or.inl ⟨by rfl, ?hy4⟩) HSd.out ?rest4
          case hy4 => (intro ww hS; have y := hS.tl.cell 0 _ rfl; go_simp; try with_reducible rfl)
          go_simp
          refine wpAnyG_take (i := 4) (v := ?v5) rfl (by kernel_rfl) (fun _ _ _ h => h) (Or.inl ⟨by rfl, ?hy5⟩) HSd.out ?rest5
          case hy5 => (intro ww _; go_simp; try with_reducible rfl)
          go_simp
          refine wpAnyG_take (i := 5) (v := ?v6) rfl (by kernel_rfl) (fun _ _ _ h => h) (Or.inl ⟨by rfl, ?hy6⟩) HSd.out ?rest6
          case hy6 => (intro ww hS; obtain ⟨⟨y0, y1⟩, y2, y3, y4, y5⟩ := hS.rq.cells; go_simp; try with_reducible rfl)
          go_simp
          refine wpAnyG_take (i := 6) (v := ?v7) rfl (by kernel_rfl) (fun _ _ _ h => h) (Or.inl ⟨by rfl, ?hy7⟩) HSd.out ?rest7
          case hy7 => (intro ww _; go_simp; try with_reducible rfl)
          go_simp
          refine wpAnyG_take (i := 7) (v := ?v8) rfl (by kernel_rfl) (fun _ _ _ h => h) (Or.inl ⟨by rfl, ?hy8⟩) HSd.out ?rest8
          case hy8 => (intro ww hS; have y := hS.cf.cell 1 _ rfl; go_simp; try with_reducible rfl)
          go_simp
          refine wpAnyG_take (i := 8) (v := ?v9) rfl (by kernel_rfl) (fun _ _ _ h => h) (Or.inl ⟨by rfl, ?hy9⟩) HSd.out ?rest9
          case hy9 => (intro ww _; go_simp; try with_reducible rfl)
          go_simp
          refine wpAnyG_take (i := 9) (v := ?v10) rfl (by kernel_rfl) (fun _ _ _ h => h) (Or.inl ⟨by rfl, ?hy10⟩) HSd.out ?rest10
          case hy10 => (intro ww _; go_simp; try with_reducible rfl)
          go_simp
          refine wpAnyG_all (rs := [10, 11]) (by kernel_rfl) (by simp) ?_
          intro i hi
          rcases List.mem_cons.1 hi with rfl | hi
          · clear hi
            refine wpOp_d rfl (by rfl) (fun K hK => ?_)
            go_simp
            refine (HCt.out _ V r HP.out.2.2.2.2.2.2.2.2.2.1 HSd.out.bel).mono ?_
            rintro e u8 ⟨ao, co, rfl, hp8, hf8, hb8⟩
            have HAo : Hid (∀ z, ao = some z → w7.heap.size ≤ z.block) := hid (fun z hz => hf8 z hz)
            have H8 : Hid ((KpB w u8 ep (.slice am nm cm) V Wh (.slice ab nb cb) r (.slice aL nL cL) pr) ∧ PairsIn u8 ao (mkC ep m q V r).2.2.2 ∧ Below w7.heap.size w7 u8) := hid ⟨HSd.out.keep (hb8), hp8, (Below.refl w7.heap.size w7).drew.trans hb8⟩
            clear hp8 hf8 hb8
            refine hK _ _ ⟨fun _ => H8.out.1, ?_⟩
            clear hK K
            go_simp
            refine wpAnyG_all (rs := [11]) (by kernel_rfl) (by simp) ?_
            intro i hi
            obtain rfl := List.mem_singleton.1 hi
            clear hi
            refine wpOp_d rfl (by rfl) (fun K hK => ?_)
            go_simp
            obtain ⟨u9, e9⟩ : ∃ u9, u9 = u8.alloc (.cells #[.int .i64 0, .int .i64 0, .int .i64 0, .int .i64 0, .int .i64 0, .string ⟨#[]⟩, .float .f64 0, .int .i64 0, .slice none 0 0] 52) := ⟨_, rfl⟩
            rw [← e9]
            have hb9 : Below u8.heap.size u8 u9 := by rw [e9]; exact (Below.refl _ _).alloc (Nat.le_refl _) _
            have H9 : Hid ((KpB w u9 ep (.slice am nm cm) V Wh (.slice ab nb cb) r (.slice aL nL cL) pr) ∧ PairsIn u9 ao (mkC ep m q V r).2.2.2 ∧ BxAt u9 u8.heap.size [.int .i64 0, .int .i64 0, .int .i64 0, .int .i64 0, .int .i64 0, .string ⟨#[]⟩, .float .f64 0, .int .i64 0, .slice none 0 0] 52 ∧ Below w7.heap.size w7 u9 ∧ w7.heap.size ≤ u8.heap.size ∧ (∀ z, ao = some z → z.block ≠ u8.heap.size)) := hid ⟨H8.out.1.keep (hb9), H8.out.2.1.keep hb9 (Nat.le_refl _), by rw [e9]; exact heap_alloc_last u8 _, H8.out.2.2.trans (hb9.mono H8.out.2.2.size), H8.out.2.2.size, fun z hz => pairs_ne H8.out.2.1 hz (by simp [mkC]; have := HP.out.2.2.2.2.2.2.2.1; have := HP.out.2.2.2.2.1; have := HQ3.out; omega)⟩
            clear e9 hb9
            refine hK _ _ ⟨fun _ => H9.out.1, ?_⟩
            clear hK K
            go_simp
            refine wpAnyG_all (rs := [12]) (by kernel_rfl) (by simp) ?_
            intro i hi
            obtain rfl := List.mem_singleton.1 hi
            clear hi
            refine wpOp_d rfl (by rfl) (fun K hK => ?_)
            refine owp_store_blk 52 _ _ rfl (u8.heap.size) 0 rfl #[.int .i64 V, .int .i64 (4 * ep + 2), .int .i64 r.c, .int .i64 r.st, .int .i64 r.k, .string r.key, .float .f64 r.b, .int .i64 r.id, .slice ao q co] rfl [.int .i64 0, .int .i64 0, .int .i64 0, .int .i64 0, .int .i64 0, .string ⟨#[]⟩, .float .f64 0, .int .i64 0, .slice none 0 0] 52 H9.out.2.2.1 (by simp) (by kernel_rfl) (by simp [Value.oneCell']) (fun u10 Hz => ?_)
            have hbz : Below w7.heap.size w7 u10 := Hz.out.2.below H9.out.2.2.2.1 H9.out.2.2.2.2.1
            have H10 : Hid ((KpB w u10 ep (.slice am nm cm) V Wh (.slice ab nb cb) r (.slice aL nL cL) pr) ∧ BxAt u10 (u8.heap.size) (ctC (mkC ep m q V r) (.slice ao q co)) 52 ∧ PairsIn u10 ao (mkC ep m q V r).2.2.2 ∧ Below w7.heap.size w7 u10) := hid ⟨H7.out.keep (hbz), Hz.out.1, pairs_stayK H9.out.2.1 (by rw [Hz.out.2.size]; exact Nat.le_refl _) (fun z hz => Hz.out.2.block _ (H9.out.2.2.2.2.2 z hz)), hbz⟩
            clear hbz Hz H9 H8
            refine hK _ _ ⟨fun _ => H10.out.1, ?_⟩
            clear hK K
            go_simp
            refine wpAnyG_done (by kernel_rfl) ?_ _
            go_simp
            go_wp2_with fail
            go_meet
            exact ⟨u8.heap.size, ao, co, rfl, H10.out.1, H10.out.2.1, H10.out.2.2.1⟩
          · obtain rfl := List.mem_singleton.1 hi
            clear hi
            refine wpOp_d rfl (by rfl) (fun K hK => ?_)
            go_simp
            obtain ⟨u8, e8⟩ : ∃ u8, u8 = (w7.alloc (.cells #[.int .i64 0, .int .i64 0, .int .i64 0, .int .i64 0, .int .i64 0, .string ⟨#[]⟩, .float .f64 0, .int .i64 0, .slice none 0 0] 52)).drew := ⟨_, rfl⟩
            rw [← e8]
            have hb8 : Below w7.heap.size w7 u8 := by rw [e8]; exact ((Below.refl _ _).alloc (Nat.le_refl _) _).drew
            have H8 : Hid ((KpB w u8 ep (.slice am nm cm) V Wh (.slice ab nb cb) r (.slice aL nL cL) pr) ∧ BxAt u8 w7.heap.size [.int .i64 0, .int .i64 0, .int .i64 0, .int .i64 0, .int .i64 0, .string ⟨#[]⟩, .float .f64 0, .int .i64 0, .slice none 0 0] 52 ∧ Below w7.heap.size w7 u8) := hid ⟨H7.out.keep (hb8), by rw [e8]; exact heap_alloc_last w7 _, hb8⟩
            clear e8 hb8
            refine hK _ _ ⟨fun _ => H8.out.1, ?_⟩
            clear hK K
            go_simp
            refine wpAnyG_all (rs := [10]) (by kernel_rfl) (by simp) ?_
            intro i hi
            obtain rfl := List.mem_singleton.1 hi
            clear hi
            refine wpOp_d rfl (by rfl) (fun K hK => ?_)
            go_simp
            refine (HCt.out _ V r HP.out.2.2.2.2.2.2.2.2.2.1 H8.out.1.bel).mono ?_
            rintro e u9 ⟨ao, co, rfl, hp9, hf9, hb9⟩
            have HAo : Hid (∀ z, ao = some z → w7.heap.size ≤ z.block) := hid (fun z hz => Nat.le_trans H8.out.2.2.size (hf9 z hz))
            have H9 : Hid ((KpB w u9 ep (.slice am nm cm) V Wh (.slice ab nb cb) r (.slice aL nL cL) pr) ∧ PairsIn u9 ao (mkC ep m q V r).2.2.2 ∧ BxAt u9 w7.heap.size [.int .i64 0, .int .i64 0, .int .i64 0, .int .i64 0, .int .i64 0, .string ⟨#[]⟩, .float .f64 0, .int .i64 0, .slice none 0 0] 52 ∧ Below w7.heap.size w7 u9 ∧ w7.heap.size ≤ w7.heap.size ∧ (∀ z, ao = some z → z.block ≠ w7.heap.size)) := hid ⟨H8.out.1.keep (hb9), hp9, H8.out.2.1.keep hb9, H8.out.2.2.trans (hb9.mono H8.out.2.2.size), Nat.le_refl _, fun z hz => by have := hf9 z hz; have := lt_of_blk H8.out.2.1; omega⟩
            clear hp9 hf9 hb9
            refine hK _ _ ⟨fun _ => H9.out.1, ?_⟩
            clear hK K
            go_simp
            refine wpAnyG_all (rs := [12]) (by kernel_rfl) (by simp) ?_
            intro i hi
            obtain rfl := List.mem_singleton.1 hi
            clear hi
            refine wpOp_d rfl (by rfl) (fun K hK => ?_)
            refine owp_store_blk 52 _ _ rfl (w7.heap.size) 0 rfl #[.int .i64 V, .int .i64 (4 * ep + 2), .int .i64 r.c, .int .i64 r.st, .int .i64 r.k, .string r.key, .float .f64 r.b, .int .i64 r.id, .slice ao q co] rfl [.int .i64 0, .int .i64 0, .int .i64 0, .int .i64 0, .int .i64 0, .string ⟨#[]⟩, .float .f64 0, .int .i64 0, .slice none 0 0] 52 H9.out.2.2.1 (by simp) (by kernel_rfl) (by simp [Value.oneCell']) (fun u10 Hz => ?_)
            have hbz : Below w7.heap.size w7 u10 := Hz.out.2.below H9.out.2.2.2.1 H9.out.2.2.2.2.1
            have H10 : Hid ((KpB w u10 ep (.slice am nm cm) V Wh (.slice ab nb cb) r (.slice aL nL cL) pr) ∧ BxAt u10 (w7.heap.size) (ctC (mkC ep m q V r) (.slice ao q co)) 52 ∧ PairsIn u10 ao (mkC ep m q V r).2.2.2 ∧ Below w7.heap.size w7 u10) := hid ⟨H7.out.keep (hbz), Hz.out.1, pairs_stayK H9.out.2.1 (by rw [Hz.out.2.size]; exact Nat.le_refl _) (fun z hz => Hz.out.2.block _ (H9.out.2.2.2.2.2 z hz)), hbz⟩
            clear hbz Hz H9 H8
            refine hK _ _ ⟨fun _ => H10.out.1, ?_⟩
            clear hK K
            go_simp
            refine wpAnyG_done (by kernel_rfl) ?_ _
            go_simp
            go_wp2_with fail
            go_meet
            exact ⟨w7.heap.size, ao, co, rfl, H10.out.1, H10.out.2.1, H10.out.2.2.1⟩
        case rest =>
          obtain ⟨po, ao, co, rfl, hkb, hox, hop⟩ := hcut
          obtain ⟨wB, rfl⟩ : ∃ x : World, x = wc := ⟨_, rfl⟩
          have HU : Hid (∀ u : World, Below wB.heap.size wB u → (KpB w u ep (.slice am nm cm) V Wh (.slice ab nb cb) r (.slice aL nL cL) pr) ∧ BxAt u po (ctC (mkC ep m q V r) (.slice ao q co)) 52 ∧ PairsIn u ao (mkC ep m q V r).2.2.2) := hid (fun u hu => ⟨hkb.keep hu, hox.keep hu, hop.keep hu (Nat.le_refl _)⟩)
          have HOa : Hid (po < wB.heap.size ∧ pr < wB.heap.size ∧ w.heap.size + 1 < wB.heap.size) := hid ⟨lt_of_blk hox, lt_of_blk hkb.rq, lt_of_blk hkb.tl⟩
          have hqi : (q : Int) ≤ 10 := by have := HP.out.2.2.2.2.2.2.2.1; have := HP.out.2.2.2.2.1; omega
          have hqc : (q : Int) ≤ (cm : Int) := by have := HP.out.2.2.2.2.2.2.2.1; have := HI.out.2.2; have := HP.out.2.2.2.2.2.2.2.2.2.2.2; omega
          have hqc2 : q ≤ cm := by omega
          have hq0 : (0 : Int) ≤ (q : Int) := Int.natCast_nonneg _
          have hnLi : (nL : Int) ≤ 9223372036854775807 := by have := HLn.out.2; unfold maxLen at this; omega
          obtain ⟨iv, hv0, hvz0, hvz1, hvz2⟩ := info_parts infoCG
          clear hkb hox hop H7 H6 HS c0
          go_wp2_with fail
          go_loopw [11, 12] (fun l i wr => ∃ (j : Nat) (T : List Nat) (G : List (Cg × Value)), j ≤ nm ∧ i = .int .i64 (j : Int) ∧ T.Sublist (List.range j) ∧ j + q ≤ nm + T.length ∧ G.map (·.1) = T.map (chgC ep m bad V r q lies) ∧ KrS wB wr l G) (fun _ i _ => ((nm : Int) - intOf i).toNat)
          case atStart => exact ⟨0, [], [], Nat.zero_le _, rfl, List.Sublist.refl _, by have := HP.out.2.2.2.2.2.2.2.1; have := HI.out.2.2; simp; omega, rfl, KrS.nil wB⟩
          case round =>
            obtain ⟨j, T, G, hj, rfl, hT, hjT, hG, hst⟩ := hrel
            obtain ⟨al, cl, rfl⟩ := hst.sl
            have hj0 : (0 : Int) ≤ (j : Int) := Int.natCast_nonneg _
            have c1 := (HU.out wr hst.bel).1.cf.cell 1 _ rfl
            by_cases hjn : j = nm
            · have hj1 : ¬ ((j : Int) < (nm : Int)) := by omega
              have hqT : q ≤ T.length := by omega
              have hT2 : T.Sublist (List.range m.length) := by rw [HI.out.2.2, ← hjn]; exact hT
              have hkp := keeps_pick (bad := bad) (lies := lies) (f := f) HP.out.1 HP.out.2.2.2.2.2.2.1 HP.out.2.2.2.2.2.2.2.1 HP.out.2.2.1 HP.out.2.1 hT2 hqT (by rw [← HCb.out]; exact HCf.out) HP.out.2.2.2.2.2.2.2.2.1
              have hRd := hst.reads
              rw [hG] at hRd
              have hlm : (T.map (chgC ep m bad V r q lies)).length ≤ maxLen := by
                have := hT2.length_le
                rw [List.length_range] at this
                rw [List.length_map]
                have := HP.out.2.2.2.2.1
                unfold maxLen
                omega
              have hcg : ∀ x, x ∈ T.map (chgC ep m bad V r q lies) → cgR x := fun x hx => by
                obtain ⟨i, hi, rfl⟩ := List.mem_map.1 hx
                exact chg_R HP.out.2.2.2.1 HP.out.2.2.2.2.1.2 HP.out.2.2.2.2.2.1 HP.out.2.2.1 HP.out.2.2.2.2.2.2.2.2.2.1 HP.out.2.2.2.2.2.2.2.2.2.2.1 i (List.mem_range.1 (hT2.subset hi))
              have hIw : IntsIn wr am m := HI.out.1.keep (HU.out wr hst.bel).1.bel (Nat.le_refl _)
              have hnmx : nm ≤ maxLen := by have := HP.out.2.2.2.2.1; have := HI.out.2.2; unfold maxLen; omega
              have HRow := hid hst
              have c0 := (HU.out wr hst.bel).1.cf.cell 0 _ rfl
              have t0 := (HU.out wr hst.bel).1.tl.cell 0 _ rfl
              rcases hkp with ⟨h0, hpk⟩ | ⟨h1, hln⟩
              · have HPk : Hid (Calls Try.prog 14 #[.agg #[.int .i64 ep, .slice am nm cm], .int .i64 (V + 1), .slice al G.length cl] wr fun e w' => ∃ g2, e = .returned (.tuple #[.slice (some ⟨g2, 0, none⟩) 2 2, .int .i64 0]) ∧ BxAt w' g2 (rC [zeroQ, normR r]) 49 ∧ Below wr.heap.size wr w') := hid ((zpick_yes (F := fun k => k < wr.heap.size) ep am nm cm m HI.out.2.2 hnmx (V + 1) al G.length cl _ hlm hcg wr (fun k hk => hk) hIw hRd h0).mono fun e w' ⟨g2, k1, k2, _, k4⟩ => by
                  have e9 : pkN ep (T.map (chgC ep m bad V r q lies)) = [zeroQ, normR r] := by rw [pkN, hpk, List.map_cons, List.map_cons, List.map_nil, norm_zero]
                  rw [e9] at k1 k2
                  exact ⟨g2, k1, k2, k4⟩)
                have HNl : Hid (∀ u : World, Calls Try.prog 26 #[.agg #[.int .i64 0, .int .i64 0, .int .i64 0, .string ⟨#[]⟩, .float .f64 0, .int .i64 0]] u fun e w' => e = .returned (.bool true) ∧ Below u.heap.size u w') := hid (fun u => qnull_any zeroQ u)
                have HSm : Hid (∀ u : World, Calls Try.prog 27 #[.agg #[.int .i64 r.c, .int .i64 r.st, .int .i64 r.k, .string r.key, .float .f64 (canW r.b), .int .i64 r.id], .agg #[.int .i64 r.c, .int .i64 r.st, .int .i64 r.k, .string r.key, .float .f64 r.b, .int .i64 r.id]] u fun e w' => e = .returned (.bool true) ∧ Below u.heap.size u w') := hid (fun u => by
                  have := qsame_any (normR r) r (canW_lt HP.out.2.2.2.2.2.2.2.2.2.1.2.2.2) HP.out.2.2.2.2.2.2.2.2.2.1.2.2.2 u
                  rw [norm_same HP.out.2.1] at this
                  exact this)
                clear hqT hT2 hRd hlm hcg hIw hnmx h0 hpk hst hT hjT hG hj hjn
                go_wp2_with fail
                refine HPk.out.mono ?_
                rintro e w9 ⟨g2, rfl, hx9, hb9⟩
                have H9 : Hid (BxAt w9 g2 (rC [zeroQ, normR r]) 49 ∧ KpB w w9 ep (.slice am nm cm) V Wh (.slice ab nb cb) r (.slice aL nL cL) pr) := hid ⟨hx9, (HU.out wr HRow.out.bel).1.keep hb9⟩
                clear hx9 hb9 c0 c1 t0
                go_wp2_with fail
                have pg0 : ∀ x : Cls w9, x.1.cell? ⟨g2, 0, none⟩ = some (.int .i64 0) := fun x => (H9.out.1.keep x.2).cell 0 _ rfl; have pg1 : ∀ x : Cls w9, x.1.cell? ⟨g2, 1, none⟩ = some (.int .i64 0) := fun x => (H9.out.1.keep x.2).cell 1 _ rfl; have pg2 : ∀ x : Cls w9, x.1.cell? ⟨g2, 2, none⟩ = some (.int .i64 0) := fun x => (H9.out.1.keep x.2).cell 2 _ rfl; have pg3 : ∀ x : Cls w9, x.1.cell? ⟨g2, 3, none⟩ = some (.string ⟨#[]⟩) := fun x => (H9.out.1.keep x.2).cell 3 _ rfl; have pg4 : ∀ x : Cls w9, x.1.cell? ⟨g2, 4, none⟩ = some (.float .f64 0) := fun x => (H9.out.1.keep x.2).cell 4 _ rfl; have pg5 : ∀ x : Cls w9, x.1.cell? ⟨g2, 5, none⟩ = some (.int .i64 0) := fun x => (H9.out.1.keep x.2).cell 5 _ rfl; have pg6 : ∀ x : Cls w9, x.1.cell? ⟨g2, 6, none⟩ = some (.int .i64 r.c) := fun x => (H9.out.1.keep x.2).cell 6 _ rfl; have pg7 : ∀ x : Cls w9, x.1.cell? ⟨g2, 7, none⟩ = some (.int .i64 r.st) := fun x => (H9.out.1.keep x.2).cell 7 _ rfl; have pg8 : ∀ x : Cls w9, x.1.cell? ⟨g2, 8, none⟩ = some (.int .i64 r.k) := fun x => (H9.out.1.keep x.2).cell 8 _ rfl; have pg9 : ∀ x : Cls w9, x.1.cell? ⟨g2, 9, none⟩ = some (.string r.key) := fun x => (H9.out.1.keep x.2).cell 9 _ rfl; have pg10 : ∀ x : Cls w9, x.1.cell? ⟨g2, 10, none⟩ = some (.float .f64 (canW r.b)) := fun x => (H9.out.1.keep x.2).cell 10 _ rfl; have pg11 : ∀ x : Cls w9, x.1.cell? ⟨g2, 11, none⟩ = some (.int .i64 r.id) := fun x => (H9.out.1.keep x.2).cell 11 _ rfl
                have n0 : ∀ x : Cls w9, x.1.cell? ⟨pr, 0, none⟩ = some (.int .i64 r.c) := fun x => (H9.out.2.keep x.2).rq.cells.1.1
                have n1 : ∀ x : Cls w9, x.1.cell? ⟨pr, 1, none⟩ = some (.int .i64 r.st) := fun x => (H9.out.2.keep x.2).rq.cells.1.2
                have n2 : ∀ x : Cls w9, x.1.cell? ⟨pr, 2, none⟩ = some (.int .i64 r.k) := fun x => (H9.out.2.keep x.2).rq.cells.2.1
                have n3 : ∀ x : Cls w9, x.1.cell? ⟨pr, 3, none⟩ = some (.string r.key) := fun x => (H9.out.2.keep x.2).rq.cells.2.2.1
                have n4 : ∀ x : Cls w9, x.1.cell? ⟨pr, 4, none⟩ = some (.float .f64 r.b) := fun x => (H9.out.2.keep x.2).rq.cells.2.2.2.1
                have n5 : ∀ x : Cls w9, x.1.cell? ⟨pr, 5, none⟩ = some (.int .i64 r.id) := fun x => (H9.out.2.keep x.2).rq.cells.2.2.2.2
                haveI := Cls.ne w9
                refine wp_region_cls w9 (by kernel_rfl) (by kernel_rfl) ?_
                repeat (go_big_quiet_step (first | (go_at_call 26; exact Cls.of _ (fun u _ => HNl.out u)) | (go_at_call 27; exact Cls.of _ (fun u _ => HSm.out u))))
                refine wpQuiet_nil ?_
                rintro _ ⟨cx, rfl⟩
                go_wp2
                go_ret
                exact ⟨rfl, (H9.out.2.keep cx.2).bel⟩
              · have HPk : Hid (Calls Try.prog 14 #[.agg #[.int .i64 ep, .slice am nm cm], .int .i64 (V + 1), .slice al G.length cl] wr fun e w' => e = .returned (.tuple #[.slice none 0 0, .int .i64 1]) ∧ Below wr.heap.size wr w') := hid (by
                  have := zpick_no (F := fun k => k < wr.heap.size) ep am nm cm m HI.out.2.2 hnmx (V + 1) al G.length cl _ hlm hcg wr hIw hRd (by rw [h1]; decide)
                  rw [h1] at this
                  exact this)
                have hnl0 : (0 : Int) < (nL : Int) := by
                  have := HLn.out.1
                  have h2 : lies.length ≠ 0 := fun e => hln (List.eq_nil_of_length_eq_zero e)
                  omega
                have hnl1 : 0 < nL := by omega
                have hnd : decide (0 < nL) = true := decide_eq_true hnl1
                clear hqT hT2 hRd hlm hcg hIw hnmx h1 hln hst hT hjT hG hj hjn
                go_wp2_with fail
                refine HPk.out.mono ?_
                rintro e w9 ⟨rfl, hb9⟩
                have H9 : Hid (KpB w w9 ep (.slice am nm cm) V Wh (.slice ab nb cb) r (.slice aL nL cL) pr) := hid ((HU.out wr HRow.out.bel).1.keep hb9)
                clear hb9 c0 c1 t0
                have t9 := H9.out.tl.cell 9 _ rfl
                go_wp2
                go_ret
                exact ⟨rfl, H9.out.bel⟩
            · have hj1 : (j : Int) < (nm : Int) := by omega
              have hjl : j < m.length := by have := HI.out.2.2; omega
              obtain ⟨ga, off, rfl, hga, hcell⟩ := HI.out.1.at j _ (getD_some hjl)
              obtain ⟨M, eM⟩ : ∃ M, M = m.getD j 0 := ⟨_, rfl⟩
              rw [← eM] at hcell
              have HMc : Hid (∀ ww, Below wB.heap.size wB ww → ww.cell? ⟨ga, off + j, none⟩ = some (.int .i64 M)) := hid (fun ww hw => (((HU.out ww hw).1.bel.cell (p := ⟨ga, off + j, none⟩) hga).trans hcell))
              have hG10 : G.length ≤ 10 := by
                have h1 : G.length = T.length := by have := congrArg List.length hG; simpa using this
                have h2 := hT.length_le
                rw [List.length_range] at h2
                have := HP.out.2.2.2.2.1
                omega
              have HRow := hid hst
              have HTl : Hid (j ≤ nm ∧ j < nm ∧ T.Sublist (List.range j) ∧ j + q ≤ nm + T.length ∧ G.map (·.1) = T.map (chgC ep m bad V r q lies) ∧ M = m.getD j 0 ∧ j < m.length) := hid ⟨hj, by omega, hT, hjT, hG, eM, hjl⟩
              have HSr : Hid (Below wB.heap.size wB wr.drew) := hid (hst.bel.drew)
              have HG10 := hid hG10
              have hGi : (G.length : Int) ≤ 10 := by omega
              clear hst hT hjT hG hcell hga hjl eM hj hjn hG10
              go_wp2_with fail
              clear c1
              refine wp_region_G (S := fun ww => Below wB.heap.size wB ww) (ex := []) (by kernel_rfl) ?_
              try (change wpAnyG _ _ _ _ _ _ _ _ _ (World.drew _))
              refine wpAnyG_take (i := 0) (v := ?v901) rfl (by kernel_rfl) (fun _ _ _ h => h) (Or.inl ⟨by rfl, ?hy901⟩) HSr.out ?rest901
              case hy901 => (intro ww _; go_simp; try with_reducible rfl)
              go_simp
              refine wpAnyG_take (i := 1) (v := ?v902) rfl (by kernel_rfl) (fun _ _ _ h => h) (Or.inl ⟨by rfl, ?hy902⟩) HSr.out ?rest902
              case hy902 => (intro ww hS; have y := (HU.out ww hS).1.cf.cell 1 _ rfl; go_simp; try with_reducible rfl)
              go_simp
              refine wpAnyG_take (i := 2) (v := ?v903) rfl (by kernel_rfl) (fun _ _ _ h => h) (Or.inl ⟨by rfl, ?hy903⟩) HSr.out ?rest903
              case hy903 => (intro ww _; go_simp; try with_reducible rfl)
              go_simp
              refine wpAnyG_take (i := 3) (v := ?v904) rfl (by kernel_rfl) (fun _ _ _ h => h) (Or.inl ⟨by rfl, ?hy904⟩) HSr.out ?rest904
              case hy904 => (intro ww _; go_simp; try with_reducible rfl)
              go_simp
              refine wpAnyG_take (i := 4) (v := ?v905) rfl (by kernel_rfl) (fun _ _ _ h => h) (Or.inl ⟨by rfl, ?hy905⟩) HSr.out ?rest905
              case hy905 => (intro ww hS; have y := HMc.out ww hS; go_simp; try with_reducible rfl)
              go_simp
              refine wpAnyG_take (i := 5) (v := ?v906) rfl (by kernel_rfl) (fun _ _ _ h => h) (Or.inl ⟨by rfl, ?hy906⟩) HSr.out ?rest906
              case hy906 => (intro ww _; go_simp; try with_reducible rfl)
              go_simp
              refine wpAnyG_take (i := 6) (v := ?v907) rfl (by kernel_rfl) (fun _ _ _ h => h) (Or.inl ⟨by rfl, ?hy907⟩) HSr.out ?rest907
              case hy907 => (intro ww hS; have y := (HU.out ww hS).1.tl.cell 0 _ rfl; go_simp; try with_reducible rfl)
              go_simp
              refine wpAnyG_take (i := 7) (v := ?v908) rfl (by kernel_rfl) (fun _ _ _ h => h) (Or.inl ⟨by rfl, ?hy908⟩) HSr.out ?rest908
              case hy908 => (intro ww _; go_simp; try with_reducible rfl)
              go_simp
              refine wpAnyG_take (i := 8) (v := ?v909) rfl (by kernel_rfl) (fun _ _ _ h => h) (Or.inl ⟨by rfl, ?hy909⟩) HSr.out ?rest909
              case hy909 => (intro ww _; go_simp; try with_reducible rfl)
              go_simp
              refine wpAnyG_all (rs := [9]) (by kernel_rfl) (by simp) ?_
              intro i hi
              obtain rfl := List.mem_singleton.1 hi
              clear hi
              refine wpOp_d rfl (by rfl) (fun K hK => ?_)
              go_simp
              obtain ⟨u2, e2⟩ : ∃ u2, u2 = (wr.alloc (.cells #[.int .i64 0, .int .i64 0, .slice none 0 0, .int .i64 0, .string ⟨#[]⟩] 26)).drew := ⟨_, rfl⟩
              rw [← e2]
              have hb2 : Below wr.heap.size wr u2 := by rw [e2]; exact ((Below.refl _ _).alloc (Nat.le_refl _) _).drew
              have HX2 : Hid (BxAt u2 wr.heap.size [.int .i64 0, .int .i64 0, .slice none 0 0, .int .i64 0, .string ⟨#[]⟩] 26 ∧ Below wr.heap.size wr u2) := hid ⟨by rw [e2]; exact heap_alloc_last wr _, hb2⟩
              clear e2 hb2
              refine hK _ _ ⟨fun _ => HRow.out.bel.trans (HX2.out.2.mono HRow.out.bel.size), ?_⟩
              clear hK K
              go_simp
              refine wpAnyG_all (rs := [10]) (by kernel_rfl) (by simp) ?_
              intro i hi
              obtain rfl := List.mem_singleton.1 hi
              clear hi
              refine wpOp_d rfl (by rfl) (fun K hK => ?_)
              refine owp_store_blk 26 _ _ rfl wr.heap.size 0 rfl #[.int .i64 M, .int .i64 (V + 1), .slice none 0 0, .int .i64 0, .string ⟨#[]⟩] rfl [.int .i64 0, .int .i64 0, .slice none 0 0, .int .i64 0, .string ⟨#[]⟩] 26 HX2.out.1 (by simp) (by kernel_rfl) (by simp [Value.oneCell']) (fun u3 Hz => ?_)
              have HX3 : Hid (BxAt u3 wr.heap.size [.int .i64 M, .int .i64 (V + 1), .slice none 0 0, .int .i64 0, .string ⟨#[]⟩] 26 ∧ Below wr.heap.size wr u3) := hid ⟨Hz.out.1, Hz.out.2.below HX2.out.2 (Nat.le_refl _)⟩
              clear Hz HX2
              refine hK _ _ ⟨fun _ => HRow.out.bel.trans (HX3.out.2.mono HRow.out.bel.size), ?_⟩
              clear hK K
              go_simp
              refine wpAnyG_done (by kernel_rfl) ?_ _
              go_simp
              obtain ⟨py, epy⟩ : ∃ py, py = wr.heap.size := ⟨_, rfl⟩
              have HY : Hid (KyS wB wr u3 py M V (.slice al G.length cl) (.slice none 0 0) []) := hid ⟨by rw [epy]; exact HX3.out.1, by rw [epy]; exact HX3.out.2, HRow.out.bel.trans (HX3.out.2.mono HRow.out.bel.size), .nil none 0 9⟩
              rw [← epy]
              have HPy : Hid (wB.heap.size ≤ py ∧ (∀ k, (Value.slice al G.length cl).ownBlock = some k → wB.heap.size ≤ k ∧ k < py)) := hid ⟨by rw [epy]; exact HRow.out.bel.size, fun k hk => by rw [epy]; exact HRow.out.own.lt k hk⟩
              have HKp : Hid (∀ u : World, Below py wr u → KrS wB u (.slice al G.length cl) G) := hid (fun u hu => HRow.out.keep (by rw [← epy]; exact hu))
              clear HX3 HSr epy HRow
              have t2 := (HU.out u3 HY.out.belc).1.tl.cell 2 _ rfl
              have y0 := HY.out.bx.cell 0 _ rfl
              have hj3 : IntKind.i64.wrap ((j : Int) + 1) = (j : Int) + 1 := wrap_k (by omega) (by omega)
              have HRN : Hid ((q : Int) - (G.length : Int) < (nm : Int) - (j : Int) → ∀ u : World, Below py wr u → (∃ (j' : Nat) (T : List Nat) (G' : List (Cg × Value)), j' ≤ nm ∧ Value.int IntKind.i64 ((j : Int) + 1) = .int .i64 (j' : Int) ∧ T.Sublist (List.range j') ∧ j' + q ≤ nm + T.length ∧ G'.map (·.1) = T.map (chgC ep m bad V r q lies) ∧ KrS wB u (.slice al G.length cl) G') ∧ ((nm : Int) - intOf (Value.int IntKind.i64 ((j : Int) + 1))).toNat < ((nm : Int) - intOf (Value.int IntKind.i64 (j : Int))).toNat) := hid (fun hx u hu => by
                have h1 := HTl.out
                have h2 : G.length = T.length := by have := congrArg List.length h1.2.2.2.2.1; simpa using this
                refine ⟨⟨j + 1, T, G, by omega, by simp, h1.2.2.1.trans (by rw [List.range_succ]; exact List.sublist_append_left _ _), by omega, h1.2.2.2.2.1, HKp.out u hu⟩, by simp only [intOf]; omega⟩)
              have HRT : Hid (∀ (u : World) (v9 vc : Value), KrS wB u v9 (G ++ [((M, V + 1, tellC ep m bad V r q lies j, (M, chT ep (M, V + 1, tellC ep m bad V r q lies j, sg0))), vc)]) → (∃ (j' : Nat) (T : List Nat) (G' : List (Cg × Value)), j' ≤ nm ∧ Value.int IntKind.i64 ((j : Int) + 1) = .int .i64 (j' : Int) ∧ T.Sublist (List.range j') ∧ j' + q ≤ nm + T.length ∧ G'.map (·.1) = T.map (chgC ep m bad V r q lies) ∧ KrS wB u v9 G') ∧ ((nm : Int) - intOf (Value.int IntKind.i64 ((j : Int) + 1))).toNat < ((nm : Int) - intOf (Value.int IntKind.i64 (j : Int))).toNat) := hid (fun u v9 vc hk => by
                have h1 := HTl.out
                refine ⟨⟨j + 1, T ++ [j], _, by omega, by simp, by rw [List.range_succ]; exact h1.2.2.1.append (List.Sublist.refl _), by rw [List.length_append]; simp; omega, by rw [List.map_append, List.map_append, h1.2.2.2.2.1, List.map_cons, List.map_nil, List.map_cons, List.map_nil, show chgC ep m bad V r q lies j = (M, V + 1, tellC ep m bad V r q lies j, (M, chT ep (M, V + 1, tellC ep m bad V r q lies j, sg0))) by unfold chgC; rw [← h1.2.2.2.2.2.1]], hk⟩, by simp only [intOf]; omega⟩)
              have HSg : Hid (∀ (u : World) (vc : Value), KyS wB wr u py M V (.slice al G.length cl) vc (tellC ep m bad V r q lies j) → Calls Try.prog 25 #[.int .i64 ep, .agg #[.int .i64 M, .int .i64 (V + 1), vc, .int .i64 0, .string ⟨#[]⟩]] u fun e w' => e = .returned (.agg #[.int .i64 M, .int .i64 (V + 1), vc, .int .i64 M, .string (chT ep (M, V + 1, tellC ep m bad V r q lies j, sg0))]) ∧ Below u.heap.size u w') := hid (fun u vc hk => by
                obtain ⟨av, kv, rfl⟩ := hk.rd.form
                have ht := tell_R (bad := bad) (q := q) (lies := lies) HP.out.2.2.2.1 HP.out.2.2.2.2.1.2 HP.out.2.2.2.2.2.1 HP.out.2.2.1 HP.out.2.2.2.2.2.2.2.2.2.1 HP.out.2.2.2.2.2.2.2.2.2.2.1 j
                exact usigned_any ep (M, V + 1, tellC ep m bad V r q lies j, sg0) av _ kv (Nat.le_trans ht.1 (by unfold maxLen; omega)) ht.2 u hk.rd)
              go_upto_if 103 with (go_at_call 21; go_must (refine (HHs.out _ M (HU.out u3 HY.out.belc).1.bel).mono ?_); rintro e u4 ⟨rfl, hb4⟩; have H4 := hid (HY.out.keep hb4); clear hb4 t2 y0)
              go_cut [14, 15] (fun _ _ wx => ∃ vc, KyS wB wr wx py M V (.slice al G.length cl) vc (tellC ep m bad V r q lies j))
              case first =>
                cases hM : hasM bad M
                · by_cases hjq : j < q
                  · have hji : (j : Int) < (q : Int) := by omega
                    have HTe : Hid (tellC ep m bad V r q lies j = [mkC ep m q V r]) := hid (by rw [tellC, ← HTl.out.2.2.2.2.2.1, hM, if_neg (by decide), if_pos hjq])
                    clear hjq
                    have hoa : ∀ z, ao = some z → z.block ≠ py ∧ (Value.slice al G.length cl).ownBlock ≠ some z.block := fun z hz => by
                      have hw := own_lt (HU.out wB (Below.refl _ _)).2.2 hz (by simp [mkC]; have := HQ3.out; have := HP.out.2.2.2.2.1; omega)
                      exact ⟨by have := HPy.out.1; omega, fun e => by have := (HPy.out.2 _ e).1; omega⟩
                    have hlq : (mkC ep m q V r).2.2.2.length = q := by simp [mkC]; have := HP.out.2.2.2.2.2.2.2.1; omega
                    have H5 := hid (put_cert H4.out HPy.out.1 (fun k hk => (HPy.out.2 k hk).2) (mkC ep m q V r) ao co (HU.out u4 H4.out.belc).2.2 hoa)
                    rw [hlq, ← HTe.out] at H5
                    clear hoa hlq
                    obtain ⟨b0, b1, b2, b3, b4, b5, b6, b7, b8⟩ := ct_cells (HU.out u4 H4.out.belc).2.1
                    simp only [mkC] at b0 b1 b2 b3 b4 b5 b6 b7
                    obtain ⟨z2, f2⟩ := al_cells H4.out.bx (.cells #[.int .i64 V, .int .i64 (4 * ep + 2), .int .i64 r.c, .int .i64 r.st, .int .i64 r.k, .string r.key, .float .f64 r.b, .int .i64 r.id, .slice ao q co] 52) 2 _ rfl
                    go_wp2_with fail
                    go_meet
                    exact ⟨_, H5.out⟩
                  · have hji : ¬ (j : Int) < (q : Int) := by omega
                    have HTe : Hid (tellC ep m bad V r q lies j = []) := hid (by rw [tellC, ← HTl.out.2.2.2.2.2.1, hM, if_neg (by decide), if_neg hjq])
                    rw [← HTe.out] at H4
                    clear hjq
                    go_wp2_with fail
                    go_meet
                    exact ⟨_, H4.out⟩
                · have HTe : Hid (tellC ep m bad V r q lies j = lieC ep m q V lies) := hid (by rw [tellC, ← HTl.out.2.2.2.2.2.1, hM, if_pos rfl])
                  go_wp2_with fail
                  obtain ⟨wm, rfl⟩ : ∃ x : World, x = wr := ⟨_, rfl⟩
                  go_loopw [14] (fun k wr => ∃ (kk : Nat) (vc : Value), kk ≤ 1 ∧ k = .int .i64 (kk : Int) ∧ KyS wB wm wr py M V (.slice al G.length cl) vc (if kk = 0 then [] else lieC ep m q V lies)) (fun k _ => (1 - intOf k).toNat)
                  case atStart => exact ⟨0, _, by omega, rfl, H4.out⟩
                  case round =>
                    obtain ⟨kk, vc, hk1, rfl, hy⟩ := hrel
                    have t9 := (HU.out wr hy.belc).1.tl.cell 9 _ rfl
                    obtain ⟨av, nv, kv, rfl⟩ : ∃ av nv kv, vc = .slice av nv kv := by obtain ⟨av, kv, h⟩ := hy.rd.form; exact ⟨av, _, kv, h⟩
                    by_cases hk0 : kk = 0
                    · subst hk0
                      rw [if_pos rfl] at hy
                      by_cases hl0 : nL = 0
                      · have HTz : Hid (lieC ep m q V lies = []) := hid (by
                          have : lies = [] := List.eq_nil_of_length_eq_zero (by rw [HLn.out.1]; exact hl0)
                          rw [this]; rfl)
                        have hx1 : ¬ ((0 : Int) < (nL : Int)) := by omega
                        rw [← HTz.out, ← HTe.out] at hy
                        have HYl := hid hy
                        clear hy hl0 hk1
                        go_wp2_with fail
                        go_meet
                        exact ⟨_, HYl.out⟩
                      · have hx1 : (0 : Int) < (nL : Int) := by omega
                        have hx2 : 0 < nL := by omega
                        obtain ⟨z, zs, hzs⟩ : ∃ z zs, lies = z :: zs := by
                          cases hl : lies with
                          | nil => exact absurd (by rw [← HLn.out.1, hl]; rfl) hl0
                          | cons z zs => exact ⟨z, zs, rfl⟩
                        obtain ⟨gl, ol, kl, a5, k5, hvl, _, hgl, hcl⟩ := ct_at HI.out.2.1 0 (by rw [hzs]; simp)
                        cases hvl
                        have hz0 : lies.getD 0 ct0 = z := by rw [hzs]; rfl
                        rw [hz0] at hcl
                        have HZc : Hid (∀ ww, Below wB.heap.size wB ww → ww.cell? ⟨gl, ol, none⟩ = some (.int .i64 z.1) ∧ ww.cell? ⟨gl, ol + 2, none⟩ = some (.int .i64 z.2.2.1.c) ∧ ww.cell? ⟨gl, ol + 3, none⟩ = some (.int .i64 z.2.2.1.st) ∧ ww.cell? ⟨gl, ol + 4, none⟩ = some (.int .i64 z.2.2.1.k) ∧ ww.cell? ⟨gl, ol + 5, none⟩ = some (.string z.2.2.1.key) ∧ ww.cell? ⟨gl, ol + 6, none⟩ = some (.float .f64 z.2.2.1.b) ∧ ww.cell? ⟨gl, ol + 7, none⟩ = some (.int .i64 z.2.2.1.id)) := hid (fun ww hw => by
                          have hb := (HU.out ww hw).1.bel
                          have hk : ∀ (d : Nat) (u : Value), (ctC z (.slice a5 z.2.2.2.length k5))[d]? = some u → ww.cell? ⟨gl, ol + d, none⟩ = some u := fun d u hd => by
                            have h1 := hcl d u hd
                            rw [Nat.zero_mul, Nat.add_zero] at h1
                            exact (hb.cell (p := ⟨gl, ol + d, none⟩) hgl).trans h1
                          exact ⟨hk 0 _ rfl, hk 2 _ rfl, hk 3 _ rfl, hk 4 _ rfl, hk 5 _ rfl, hk 6 _ rfl, hk 7 _ rfl⟩)
                        have HzR : Hid (ctR z) := hid (HP.out.2.2.2.2.2.2.2.2.2.2.1 z (by rw [hzs]; exact List.mem_cons_self ..))
                        have HZs := hid hzs
                        have HYl := hid hy
                        have HYc : Hid (Below wB.heap.size wB wr) := hid hy.belc
                        clear hy hl0 hk1 hzs hcl hgl hz0
                        go_wp2_with fail
                        have HSd : Hid (Below wB.heap.size wB wr.drew) := hid ((HYc.out).trans (((Below.refl wr.heap.size wr).drew).mono (HYc.out).size))
                        refine wp_region_G (S := fun ww => Below wB.heap.size wB ww) (ex := []) (by kernel_rfl) ?_
                        try (change wpAnyG _ _ _ _ _ _ _ _ _ (World.drew _))
                        refine wpAnyG_take (i := 0) (v := ?v3001) rfl (by kernel_rfl) (fun _ _ _ h => h) (Or.inl ⟨by rfl, ?hy3001⟩) HSd.out ?rest3001
                        case hy3001 => (intro ww _; go_simp; try with_reducible rfl)
                        go_simp
                        refine wpAnyG_take (i := 1) (v := ?v3002) rfl (by kernel_rfl) (fun _ _ _ h => h) (Or.inl ⟨by rfl, ?hy3002⟩) HSd.out ?rest3002
                        case hy3002 => (intro ww hS; have y := (HU.out ww hS).1.cf.cell 0 _ rfl; go_simp; try with_reducible rfl)
                        go_simp
                        refine wpAnyG_take (i := 2) (v := ?v3003) rfl (by kernel_rfl) (fun _ _ _ h => h) (Or.inl ⟨by rfl, ?hy3003⟩) HSd.out ?rest3003
                        case hy3003 => (intro ww _; go_simp; try with_reducible rfl)
                        go_simp
                        refine wpAnyG_take (i := 3) (v := ?v3004) rfl (by kernel_rfl) (fun _ _ _ h => h) (Or.inl ⟨by rfl, ?hy3004⟩) HSd.out ?rest3004
                        case hy3004 => (intro ww hS; have y := (HU.out ww hS).1.tl.cell 9 _ rfl; go_simp; try with_reducible rfl)
                        go_simp
                        refine wpAnyG_take (i := 4) (v := ?v3005) rfl (by kernel_rfl) (fun _ _ _ h => h) (Or.inl ⟨by rfl, ?hy3005⟩) HSd.out ?rest3005
                        case hy3005 => (intro ww _; go_simp; try with_reducible rfl)
                        go_simp
                        refine wpAnyG_take (i := 5) (v := ?v3006) rfl (by kernel_rfl) (fun _ _ _ h => h) (Or.inl ⟨by rfl, ?hy3006⟩) HSd.out ?rest3006
                        case hy3006 => (intro ww _; go_simp; try with_reducible rfl)
                        go_simp
                        refine wpAnyG_take (i := 6) (v := ?v3007) rfl (by kernel_rfl) (fun _ _ _ h => h) (Or.inl ⟨by rfl, ?hy3007⟩) HSd.out ?rest3007
                        case hy3007 => (intro ww _; go_simp; try with_reducible rfl)
                        go_simp
                        refine wpAnyG_take (i := 7) (v := ?v3008) rfl (by kernel_rfl) (fun _ _ _ h => h) (Or.inl ⟨by rfl, ?hy3008⟩) HSd.out ?rest3008
                        case hy3008 => (intro ww hS; obtain ⟨y0, y1, y2, y3, y4, y5, y6⟩ := HZc.out ww hS; go_simp; try with_reducible rfl)
                        go_simp
                        refine wpAnyG_take (i := 8) (v := ?v3009) rfl (by kernel_rfl) (fun _ _ _ h => h) (Or.inl ⟨by rfl, ?hy3009⟩) HSd.out ?rest3009
                        case hy3009 => (intro ww _; go_simp; try with_reducible rfl)
                        go_simp
                        refine wpAnyG_take (i := 9) (v := ?v3010) rfl (by kernel_rfl) (fun _ _ _ h => h) (Or.inl ⟨by rfl, ?hy3010⟩) HSd.out ?rest3010
                        case hy3010 => (intro ww _; go_simp; try with_reducible rfl)
                        go_simp
                        refine wpAnyG_take (i := 10) (v := ?v3011) rfl (by kernel_rfl) (fun _ _ _ h => h) (Or.inl ⟨by rfl, ?hy3011⟩) HSd.out ?rest3011
                        case hy3011 => (intro ww hS; have y := (HU.out ww hS).1.tl.cell 9 _ rfl; go_simp; try with_reducible rfl)
                        go_simp
                        refine wpAnyG_take (i := 11) (v := ?v3012) rfl (by kernel_rfl) (fun _ _ _ h => h) (Or.inl ⟨by rfl, ?hy3012⟩) HSd.out ?rest3012
                        case hy3012 => (intro ww _; go_simp; try with_reducible rfl)
                        go_simp
                        refine wpAnyG_take (i := 12) (v := ?v3013) rfl (by kernel_rfl) (fun _ _ _ h => h) (Or.inl ⟨by rfl, ?hy3013⟩) HSd.out ?rest3013
                        case hy3013 => (intro ww _; go_simp; try with_reducible rfl)
                        go_simp
                        refine wpAnyG_take (i := 13) (v := ?v3014) rfl (by kernel_rfl) (fun _ _ _ h => h) (Or.inl ⟨by rfl, ?hy3014⟩) HSd.out ?rest3014
                        case hy3014 => (intro ww _; go_simp; try with_reducible rfl)
                        go_simp
                        refine wpAnyG_take (i := 14) (v := ?v3015) rfl (by kernel_rfl) (fun _ _ _ h => h) (Or.inl ⟨by rfl, ?hy3015⟩) HSd.out ?rest3015
                        case hy3015 => (intro ww hS; obtain ⟨y0, y1, y2, y3, y4, y5, y6⟩ := HZc.out ww hS; go_simp; try with_reducible rfl)
                        go_simp
                        refine wpAnyG_take (i := 15) (v := ?v3016) rfl (by kernel_rfl) (fun _ _ _ h => h) (Or.inl ⟨by rfl, ?hy3016⟩) HSd.out ?rest3016
                        case hy3016 => (intro ww _; go_simp; try with_reducible rfl)
                        go_simp
                        refine wpAnyG_take (i := 16) (v := ?v3017) rfl (by kernel_rfl) (fun _ _ _ h => h) (Or.inl ⟨by rfl, ?hy3017⟩) HSd.out ?rest3017
                        case hy3017 => (intro ww hS; have y := (HU.out ww hS).1.cf.cell 1 _ rfl; go_simp; try with_reducible rfl)
                        go_simp
                        refine wpAnyG_take (i := 17) (v := ?v3018) rfl (by kernel_rfl) (fun _ _ _ h => h) (Or.inl ⟨by rfl, ?hy3018⟩) HSd.out ?rest3018
                        case hy3018 => (intro ww _; go_simp; try with_reducible rfl)
                        go_simp
                        refine wpAnyG_take (i := 18) (v := ?v3019) rfl (by kernel_rfl) (fun _ _ _ h => h) (Or.inl ⟨by rfl, ?hy3019⟩) HSd.out ?rest3019
                        case hy3019 => (intro ww _; go_simp; try with_reducible rfl)
                        go_simp
                        refine wpAnyG_all (rs := [19, 20]) (by kernel_rfl) (by simp) ?_
                        intro i hi
                        rcases List.mem_cons.1 hi with rfl | hi
                        · clear hi
                          refine wpOp_d rfl (by rfl) (fun K hK => ?_)
                          go_simp
                          refine (HCt.out _ z.1 z.2.2.1 HzR.out.2.1 (HU.out _ HSd.out).1.bel).mono ?_
                          rintro e u8 ⟨ao, co, rfl, hp8, hf8, hb8⟩
                          have HAo : Hid (∀ z, ao = some z → wr.heap.size ≤ z.block) := hid (fun z hz => hf8 z hz)
                          have H8 : Hid ((Below wB.heap.size wB u8) ∧ PairsIn u8 ao (mkC ep m q z.1 z.2.2.1).2.2.2 ∧ Below wr.heap.size wr u8) := hid ⟨(HSd.out).trans ((hb8).mono (HSd.out).size), hp8, (Below.refl wr.heap.size wr).drew.trans hb8⟩
                          clear hp8 hf8 hb8
                          refine hK _ _ ⟨fun _ => H8.out.1, ?_⟩
                          clear hK K
                          go_simp
                          refine wpAnyG_all (rs := [20]) (by kernel_rfl) (by simp) ?_
                          intro i hi
                          obtain rfl := List.mem_singleton.1 hi
                          clear hi
                          refine wpOp_d rfl (by rfl) (fun K hK => ?_)
                          go_simp
                          obtain ⟨u9, e9⟩ : ∃ u9, u9 = u8.alloc (.cells #[.int .i64 0, .int .i64 0, .int .i64 0, .int .i64 0, .int .i64 0, .string ⟨#[]⟩, .float .f64 0, .int .i64 0, .slice none 0 0] 52) := ⟨_, rfl⟩
                          rw [← e9]
                          have hb9 : Below u8.heap.size u8 u9 := by rw [e9]; exact (Below.refl _ _).alloc (Nat.le_refl _) _
                          have H9 : Hid ((Below wB.heap.size wB u9) ∧ PairsIn u9 ao (mkC ep m q z.1 z.2.2.1).2.2.2 ∧ BxAt u9 u8.heap.size [.int .i64 0, .int .i64 0, .int .i64 0, .int .i64 0, .int .i64 0, .string ⟨#[]⟩, .float .f64 0, .int .i64 0, .slice none 0 0] 52 ∧ Below wr.heap.size wr u9 ∧ wr.heap.size ≤ u8.heap.size ∧ (∀ z, ao = some z → z.block ≠ u8.heap.size)) := hid ⟨(H8.out.1).trans ((hb9).mono (H8.out.1).size), H8.out.2.1.keep hb9 (Nat.le_refl _), by rw [e9]; exact heap_alloc_last u8 _, H8.out.2.2.trans (hb9.mono H8.out.2.2.size), H8.out.2.2.size, fun z hz => pairs_ne H8.out.2.1 hz (by simp [mkC]; have := HP.out.2.2.2.2.2.2.2.1; have := HP.out.2.2.2.2.1; have := HQ3.out; omega)⟩
                          clear e9 hb9
                          refine hK _ _ ⟨fun _ => H9.out.1, ?_⟩
                          clear hK K
                          go_simp
                          refine wpAnyG_all (rs := [21]) (by kernel_rfl) (by simp) ?_
                          intro i hi
                          obtain rfl := List.mem_singleton.1 hi
                          clear hi
                          refine wpOp_d rfl (by rfl) (fun K hK => ?_)
                          refine owp_store_blk 52 _ _ rfl (u8.heap.size) 0 rfl #[.int .i64 z.1, .int .i64 (4 * ep + 2), .int .i64 z.2.2.1.c, .int .i64 z.2.2.1.st, .int .i64 z.2.2.1.k, .string z.2.2.1.key, .float .f64 z.2.2.1.b, .int .i64 z.2.2.1.id, .slice ao q co] rfl [.int .i64 0, .int .i64 0, .int .i64 0, .int .i64 0, .int .i64 0, .string ⟨#[]⟩, .float .f64 0, .int .i64 0, .slice none 0 0] 52 H9.out.2.2.1 (by simp) (by kernel_rfl) (by simp [Value.oneCell']) (fun u10 Hz => ?_)
                          have hbz : Below wr.heap.size wr u10 := Hz.out.2.below H9.out.2.2.2.1 H9.out.2.2.2.2.1
                          have H10 : Hid ((Below wB.heap.size wB u10) ∧ BxAt u10 (u8.heap.size) (ctC (mkC ep m q z.1 z.2.2.1) (.slice ao q co)) 52 ∧ PairsIn u10 ao (mkC ep m q z.1 z.2.2.1).2.2.2 ∧ Below wr.heap.size wr u10) := hid ⟨(HYc.out).trans ((hbz).mono (HYc.out).size), Hz.out.1, pairs_stayK H9.out.2.1 (by rw [Hz.out.2.size]; exact Nat.le_refl _) (fun z hz => Hz.out.2.block _ (H9.out.2.2.2.2.2 z hz)), hbz⟩
                          clear hbz Hz H9 H8
                          refine hK _ _ ⟨fun _ => H10.out.1, ?_⟩
                          clear hK K
                          go_simp
                          refine wpAnyG_done (by kernel_rfl) ?_ _
                          go_simp
                          have H11 := hid (HYl.out.keep H10.out.2.2.2)
                          obtain ⟨b0, b1, b2, b3, b4, b5, b6, b7, b8⟩ := ct_cells H10.out.2.1
                          simp only [mkC] at b0 b1 b2 b3 b4 b5 b6 b7
                          have t0 := (HU.out u10 H11.out.belc).1.tl.cell 0 _ rfl
                          by_cases hz1 : (0 : Int) ≤ z.1
                          · by_cases hz2 : z.1 < V
                            · have hoa : ∀ x, ao = some x → x.block ≠ py ∧ (Value.slice al G.length cl).ownBlock ≠ some x.block := fun x hx => by
                                have h1 := HAo.out x hx
                                have h2 := lt_of_blk HYl.out.bx
                                exact ⟨by omega, fun e => by have := (HPy.out.2 _ e).2; omega⟩
                              have hlq : (mkC ep m q z.1 z.2.2.1).2.2.2.length = q := by simp [mkC]; have := HP.out.2.2.2.2.2.2.2.1; omega
                              have H12 := hid (put_cert H11.out HPy.out.1 (fun k hk => (HPy.out.2 k hk).2) (mkC ep m q z.1 z.2.2.1) ao co H10.out.2.2.1 hoa)
                              rw [hlq] at H12
                              obtain ⟨z2, f2⟩ := al_cells H11.out.bx (.cells #[.int .i64 z.1, .int .i64 (4 * ep + 2), .int .i64 z.2.2.1.c, .int .i64 z.2.2.1.st, .int .i64 z.2.2.1.k, .string z.2.2.1.key, .float .f64 z.2.2.1.b, .int .i64 z.2.2.1.id, .slice ao q co] 52) 2 _ rfl
                              have HLz : Hid (lieC ep m q V lies = [mkC ep m q z.1 z.2.2.1]) := hid (by rw [HZs.out, lieC, if_pos ⟨hz1, hz2⟩])
                              clear hoa hlq
                              go_wp2
                              exact ⟨⟨1, _, Nat.le_refl _, rfl, by rw [if_neg (by decide), HLz.out]; exact H12.out⟩, by simp [intOf]⟩
                            · have HLz : Hid (lieC ep m q V lies = []) := hid (by rw [HZs.out, lieC, if_neg (fun h => hz2 h.2)])
                              go_wp2
                              exact ⟨⟨1, _, Nat.le_refl _, rfl, by rw [if_neg (by decide), HLz.out]; exact H11.out⟩, by simp [intOf]⟩
                          · have HLz : Hid (lieC ep m q V lies = []) := hid (by rw [HZs.out, lieC, if_neg (fun h => hz1 h.1)])
                            go_wp2
                            exact ⟨⟨1, _, Nat.le_refl _, rfl, by rw [if_neg (by decide), HLz.out]; exact H11.out⟩, by simp [intOf]⟩
                        · obtain rfl := List.mem_singleton.1 hi
                          clear hi
                          refine wpOp_d rfl (by rfl) (fun K hK => ?_)
                          go_simp
                          obtain ⟨u8, e8⟩ : ∃ u8, u8 = (wr.alloc (.cells #[.int .i64 0, .int .i64 0, .int .i64 0, .int .i64 0, .int .i64 0, .string ⟨#[]⟩, .float .f64 0, .int .i64 0, .slice none 0 0] 52)).drew := ⟨_, rfl⟩
                          rw [← e8]
                          have hb8 : Below wr.heap.size wr u8 := by rw [e8]; exact ((Below.refl _ _).alloc (Nat.le_refl _) _).drew
                          have H8 : Hid ((Below wB.heap.size wB u8) ∧ BxAt u8 wr.heap.size [.int .i64 0, .int .i64 0, .int .i64 0, .int .i64 0, .int .i64 0, .string ⟨#[]⟩, .float .f64 0, .int .i64 0, .slice none 0 0] 52 ∧ Below wr.heap.size wr u8) := hid ⟨(HYc.out).trans ((hb8).mono (HYc.out).size), by rw [e8]; exact heap_alloc_last wr _, hb8⟩
                          clear e8 hb8
                          refine hK _ _ ⟨fun _ => H8.out.1, ?_⟩
                          clear hK K
                          go_simp
                          refine wpAnyG_all (rs := [19]) (by kernel_rfl) (by simp) ?_
                          intro i hi
                          obtain rfl := List.mem_singleton.1 hi
                          clear hi
                          refine wpOp_d rfl (by rfl) (fun K hK => ?_)
                          go_simp
                          refine (HCt.out _ z.1 z.2.2.1 HzR.out.2.1 (HU.out _ H8.out.1).1.bel).mono ?_
                          rintro e u9 ⟨ao, co, rfl, hp9, hf9, hb9⟩
                          have HAo : Hid (∀ z, ao = some z → wr.heap.size ≤ z.block) := hid (fun z hz => Nat.le_trans H8.out.2.2.size (hf9 z hz))
                          have H9 : Hid ((Below wB.heap.size wB u9) ∧ PairsIn u9 ao (mkC ep m q z.1 z.2.2.1).2.2.2 ∧ BxAt u9 wr.heap.size [.int .i64 0, .int .i64 0, .int .i64 0, .int .i64 0, .int .i64 0, .string ⟨#[]⟩, .float .f64 0, .int .i64 0, .slice none 0 0] 52 ∧ Below wr.heap.size wr u9 ∧ wr.heap.size ≤ wr.heap.size ∧ (∀ z, ao = some z → z.block ≠ wr.heap.size)) := hid ⟨(H8.out.1).trans ((hb9).mono (H8.out.1).size), hp9, H8.out.2.1.keep hb9, H8.out.2.2.trans (hb9.mono H8.out.2.2.size), Nat.le_refl _, fun z hz => by have := hf9 z hz; have := lt_of_blk H8.out.2.1; omega⟩
                          clear hp9 hf9 hb9
                          refine hK _ _ ⟨fun _ => H9.out.1, ?_⟩
                          clear hK K
                          go_simp
                          refine wpAnyG_all (rs := [21]) (by kernel_rfl) (by simp) ?_
                          intro i hi
                          obtain rfl := List.mem_singleton.1 hi
                          clear hi
                          refine wpOp_d rfl (by rfl) (fun K hK => ?_)
                          refine owp_store_blk 52 _ _ rfl (wr.heap.size) 0 rfl #[.int .i64 z.1, .int .i64 (4 * ep + 2), .int .i64 z.2.2.1.c, .int .i64 z.2.2.1.st, .int .i64 z.2.2.1.k, .string z.2.2.1.key, .float .f64 z.2.2.1.b, .int .i64 z.2.2.1.id, .slice ao q co] rfl [.int .i64 0, .int .i64 0, .int .i64 0, .int .i64 0, .int .i64 0, .string ⟨#[]⟩, .float .f64 0, .int .i64 0, .slice none 0 0] 52 H9.out.2.2.1 (by simp) (by kernel_rfl) (by simp [Value.oneCell']) (fun u10 Hz => ?_)
                          have hbz : Below wr.heap.size wr u10 := Hz.out.2.below H9.out.2.2.2.1 H9.out.2.2.2.2.1
                          have H10 : Hid ((Below wB.heap.size wB u10) ∧ BxAt u10 (wr.heap.size) (ctC (mkC ep m q z.1 z.2.2.1) (.slice ao q co)) 52 ∧ PairsIn u10 ao (mkC ep m q z.1 z.2.2.1).2.2.2 ∧ Below wr.heap.size wr u10) := hid ⟨(HYc.out).trans ((hbz).mono (HYc.out).size), Hz.out.1, pairs_stayK H9.out.2.1 (by rw [Hz.out.2.size]; exact Nat.le_refl _) (fun z hz => Hz.out.2.block _ (H9.out.2.2.2.2.2 z hz)), hbz⟩
                          clear hbz Hz H9 H8
                          refine hK _ _ ⟨fun _ => H10.out.1, ?_⟩
                          clear hK K
                          go_simp
                          refine wpAnyG_done (by kernel_rfl) ?_ _
                          go_simp
                          have H11 := hid (HYl.out.keep H10.out.2.2.2)
                          obtain ⟨b0, b1, b2, b3, b4, b5, b6, b7, b8⟩ := ct_cells H10.out.2.1
                          simp only [mkC] at b0 b1 b2 b3 b4 b5 b6 b7
                          have t0 := (HU.out u10 H11.out.belc).1.tl.cell 0 _ rfl
                          by_cases hz1 : (0 : Int) ≤ z.1
                          · by_cases hz2 : z.1 < V
                            · have hoa : ∀ x, ao = some x → x.block ≠ py ∧ (Value.slice al G.length cl).ownBlock ≠ some x.block := fun x hx => by
                                have h1 := HAo.out x hx
                                have h2 := lt_of_blk HYl.out.bx
                                exact ⟨by omega, fun e => by have := (HPy.out.2 _ e).2; omega⟩
                              have hlq : (mkC ep m q z.1 z.2.2.1).2.2.2.length = q := by simp [mkC]; have := HP.out.2.2.2.2.2.2.2.1; omega
                              have H12 := hid (put_cert H11.out HPy.out.1 (fun k hk => (HPy.out.2 k hk).2) (mkC ep m q z.1 z.2.2.1) ao co H10.out.2.2.1 hoa)
                              rw [hlq] at H12
                              obtain ⟨z2, f2⟩ := al_cells H11.out.bx (.cells #[.int .i64 z.1, .int .i64 (4 * ep + 2), .int .i64 z.2.2.1.c, .int .i64 z.2.2.1.st, .int .i64 z.2.2.1.k, .string z.2.2.1.key, .float .f64 z.2.2.1.b, .int .i64 z.2.2.1.id, .slice ao q co] 52) 2 _ rfl
                              have HLz : Hid (lieC ep m q V lies = [mkC ep m q z.1 z.2.2.1]) := hid (by rw [HZs.out, lieC, if_pos ⟨hz1, hz2⟩])
                              clear hoa hlq
                              go_wp2
                              exact ⟨⟨1, _, Nat.le_refl _, rfl, by rw [if_neg (by decide), HLz.out]; exact H12.out⟩, by simp [intOf]⟩
                            · have HLz : Hid (lieC ep m q V lies = []) := hid (by rw [HZs.out, lieC, if_neg (fun h => hz2 h.2)])
                              go_wp2
                              exact ⟨⟨1, _, Nat.le_refl _, rfl, by rw [if_neg (by decide), HLz.out]; exact H11.out⟩, by simp [intOf]⟩
                          · have HLz : Hid (lieC ep m q V lies = []) := hid (by rw [HZs.out, lieC, if_neg (fun h => hz1 h.1)])
                            go_wp2
                            exact ⟨⟨1, _, Nat.le_refl _, rfl, by rw [if_neg (by decide), HLz.out]; exact H11.out⟩, by simp [intOf]⟩
                    · obtain rfl : kk = 1 := by omega
                      rw [if_neg hk0, ← HTe.out] at hy
                      have HYl := hid hy
                      clear hy hk0 hk1
                      go_wp2_with fail
                      all_goals go_meet
                      all_goals exact ⟨_, HYl.out⟩
              case rest =>
                obtain ⟨vc, hky⟩ := hcut
                obtain ⟨av, nv, kv, rfl⟩ : ∃ av nv kv, vc = .slice av nv kv := by obtain ⟨av, kv, h⟩ := hky.rd.form; exact ⟨av, _, kv, h⟩
                have HKy := hid hky
                clear hky H4
                have HT0 : Hid (KyS wB wr wc py M V (.slice al G.length cl) (.slice av nv kv) (tellC ep m bad V r q lies j)) := HKy
                have t1 := (HU.out _ HT0.out.belc).1.tl.cell 1 _ rfl
                have k1 := (HU.out _ HT0.out.belc).1.cf.cell 1 _ rfl
                have k0 := (HU.out _ HT0.out.belc).1.cf.cell 0 _ rfl
                have v0 := HT0.out.bx.cell 0 _ rfl
                have v1 := HT0.out.bx.cell 1 _ rfl
                have v2 := HT0.out.bx.cell 2 _ rfl
                have v3 := HT0.out.bx.cell 3 _ rfl
                have v4 := HT0.out.bx.cell 4 _ rfl
                go_wp2_with fail
                all_goals first
                  | exact HRN.out (by omega) _ HT0.out.bel
                  | (refine (HSg.out _ _ HT0.out).mono ?_
                     rintro e u6 ⟨rfl, hb6⟩
                     have H6 := hid (HT0.out.keep hb6)
                     clear hb6 t1 k1 k0 v0 v1 v2 v3 v4
                     go_wp2_with (at_builtin; (refine wpList_append_own_at _ rfl _ _ 37 rfl wB.heap.size 26 iv (.agg #[.int .i64 0, .int .i64 0, .slice none 0 0, .int .i64 0, .string ⟨#[]⟩]) 5 64 Try.underlying37 hv0 hvz0 hvz1 hvz2 rfl (by decide) _ G.length _ rfl (by exact ((HKp.out _ H6.out.bel).own.alloc _)) ⟨_, 0, none⟩ 1 1 (cgF ((M, V + 1, tellC ep m bad V r q lies j, (M, chT ep (M, V + 1, tellC ep m bad V r q lies j, sg0))), (.slice av nv kv))) rfl rfl (World.news_of_block (t := 26) (fr := (0, 0)) (heap_alloc_last _ _)) (by simp [cgF, cgC, Value.oneCell']) (by have := HG10.out; unfold maxLen; omega) (by have := HG10.out; omega) (by have := (HKp.out _ H6.out.bel).bel.size; simp; omega) ?_); intro v9 w9 hown9 hgrow9 hnil9 hob9; go_must (have H9 : Hid (KrS wB w9 v9 (G ++ [((M, V + 1, tellC ep m bad V r q lies j, (M, chT ep (M, V + 1, tellC ep m bad V r q lies j, sg0))), (.slice av nv kv))])) := hid (((HKp.out _ H6.out.bel).keep ((Below.refl _ _).alloc (Nat.le_refl _) _)).grow ((M, V + 1, tellC ep m bad V r q lies j, (M, chT ep (M, V + 1, tellC ep m bad V r q lies j, sg0))), (.slice av nv kv)) ((H6.out.rd.under ((Below.refl _ _).alloc (Nat.le_refl _) _) (Nat.le_refl _)).mono (fun k _ hk => hk.2)) hown9 hgrow9 hob9); clear hown9 hgrow9 hnil9 hob9))
                     exact HRT.out _ _ _ H9.out)
    · have hj1 : (j : Int) < (nm : Int) := by omega
      have hjl : j < m.length := by have := HI.out.2.2; omega
      obtain ⟨ga, off, rfl, hga, hcell⟩ := HI.out.1.at j _ (getD_some hjl)
      have htk : (m.take (j + 1)).countP (fun x => hasM bad x) = (m.take j).countP (fun x => hasM bad x) + (if hasM bad (m.getD j 0) = true then 1 else 0) := by
        rw [List.take_succ_eq_append_getElem hjl, List.countP_append]
        simp [hjl, List.countP_cons]
      obtain ⟨M, eM⟩ : ∃ M, M = m.getD j 0 := ⟨_, rfl⟩
      rw [← eM] at htk hcell
      have HTk := hid htk
      have HS := hid hst
      have HJ := hid (And.intro hj hjn)
      have d0 : ∀ x : Cls wr, x.1.cell? ⟨w.heap.size + 1, 2, none⟩ = some (.slice ab nb cb) := fun x => (HS.out.keep x.2).tl.cell 2 _ rfl
      have d1 : ∀ x : Cls wr, x.1.cell? ⟨w.heap.size, 1, none⟩ = some (.slice (some ⟨ga, off, none⟩) nm cm) := fun x => (HS.out.keep x.2).cf.cell 1 _ rfl
      have d2 : ∀ x : Cls wr, x.1.cell? ⟨ga, off + j, none⟩ = some (.int .i64 M) := fun x => ((HS.out.keep x.2).bel.cell (p := ⟨ga, off + j, none⟩) hga).trans hcell
      clear hst hj hjn htk eM hcell hjl hga
      generalize (m.take j).countP (fun x => hasM bad x) = C at hcb HTk ⊢
      have hc3 : IntKind.i64.wrap ((C : Int) + 1) = (C : Int) + 1 := wrap_k (by omega) (by omega)
      have hj3 : IntKind.i64.wrap ((j : Int) + 1) = (j : Int) + 1 := wrap_k (by omega) (by omega)
      cases hM : hasM bad M
      all_goals
        have HH : Hid (∀ u : World, Below wr.heap.size wr u → Calls Try.prog 21 #[.slice ab nb cb, .int .i64 M] u fun e w' => e = .returned (.bool (hasM bad M)) ∧ Below u.heap.size u w') := hid (fun u hu => HHs.out u M (HS.out.bel.trans (hu.mono HS.out.bel.size)))
        rw [hM] at HH HTk
        go_wp2
        haveI := Cls.ne wr
        refine wp_region_cls wr (by kernel_rfl) (by kernel_rfl) ?_
        repeat (go_big_quiet_step ((go_at_call 21; exact Cls.of _ (fun u hu => HH.out u hu))))
        refine wpQuiet_nil ?_
        rintro _ ⟨cx, rfl⟩
        go_wp2
        go_roundw
        case rel => exact ⟨j + 1, by have := HJ.out; omega, by go_num, by rw [HTk.out]; simp, HS.out.keep cx.2⟩
        case measure => simp [intOf]; omega
theorem changeKeeps_walk (ep : Int) (am : Option Addr) (nm cm : Nat) (m : List Int) (hn : m.length = nm) (hnm : nm ≤ maxLen) (hcm : nm ≤ cm) (V Wh : Int) (ab : Option Addr) (nb cb : Nat) (bad : List Int) (hnb : bad.length = nb) (hnbm : nb ≤ maxLen) (r : Rq) (hrR : rqR r) (aL : Option Addr) (nL cL : Nat) (lies : List Ct) (hnL : lies.length = nL) (hLm : nL ≤ maxLen) (hLR : ∀ z, z ∈ lies → ctR z) (w : World) (hI : IntsIn w am m) (hB : IntsIn w ab bad) (hL : Reads (fun k => k < w.heap.size) w (.slice aL nL cL) (dCts lies)) :
    Calls Try.prog 7 #[.agg #[.int .i64 ep, .slice am nm cm], .agg #[.int .i64 V, .int .i64 Wh, .slice ab nb cb, .int .i64 r.c, .int .i64 r.st, .int .i64 r.k, .string r.key, .int .u64 (r.b : Int), .int .i64 r.id, .slice aL nL cL]] w fun e w' => e = .returned (.bool true) ∧ Below w.heap.size w w' := by
  cases h1 : rightC ep m with
  | false => exact keeps_no ep am nm cm m hn hnm hcm V Wh ab nb cb bad hnb hnbm r hrR aL nL cL lies hnL hLm hLR w hI hB hL (.inl h1)
  | true =>
    cases h2 : rightB r with
    | false => exact keeps_no ep am nm cm m hn hnm hcm V Wh ab nb cb bad hnb hnbm r hrR aL nL cL lies hnL hLm hLR w hI hB hL (.inr (.inl ⟨h1, h2⟩))
    | true =>
      by_cases h3 : V < 0
      · exact keeps_no ep am nm cm m hn hnm hcm V Wh ab nb cb bad hnb hnbm r hrR aL nL cL lies hnL hLm hLR w hI hB hL (.inr (.inr (.inl ⟨h1, h2, h3⟩)))
      · by_cases h4 : 15 ≤ V
        · exact keeps_no ep am nm cm m hn hnm hcm V Wh ab nb cb bad hnb hnbm r hrR aL nL cL lies hnL hLm hLR w hI hB hL (.inr (.inr (.inr ⟨h1, h2, h4⟩)))
        · exact keeps_go ep am nm cm m hn hnm hcm V Wh ab nb cb bad hnb hnbm r hrR aL nL cL lies hnL hLm hLR w hI hB hL h1 h2 ⟨by omega, by omega⟩
end Go.Proofs.Ythoofboegchodaa
