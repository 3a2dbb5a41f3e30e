/- The law: what a client asked already changes nothing but how much is done. -/
import Derived.Test.YtpeagpeifmimlaaMx9
import Derived.Test.YtpeagpeifmimlaaGnI
import Derived.Test.YtpeagpeifmimlaaMx1
namespace Go.Proofs.Ytpeagpeifmimlaa
open Go.RowKit

theorem can_dec (c : Int) : (decide (¬ c = 7)) = true ∨ (decide (¬ c = 7)) = false := by cases decide (¬ c = 7) <;> simp
/-- All that the law asks of the ledger behind the script. -/
structure OcF (w0 : World) (s : Ls) (q : Rq) : Prop where
  ok : LOk s
  r : rightB q = true
  b : q.b < 18446744073709551616
  k : q.key.size ≤ maxLen

/-- What lies about when the ledger is there. -/
structure OcSt (w0 w : World) (ep : Int) (vm : Value) (q : Rq) : Prop where
  cf : GfAt w w0.heap.size ep vm
  ak : AkAt w (w0.heap.size + 1) q
  bel : Below w0.heap.size w0 w
theorem OcSt.keep {w0 w w' : World} {ep : Int} {vm : Value} {q : Rq} (h : OcSt w0 w ep vm q) (hb : Below w.heap.size w w') : OcSt w0 w' ep vm q := ⟨(hb.block _ (lt_of_blk h.cf)).trans h.cf, h.ak.keep hb, h.bel.trans (hb.mono h.bel.size)⟩
theorem oc_start (w : World) (ep : Int) (vm : Value) (q : Rq) : OcSt w ((w.alloc (.cells #[.int .i64 ep, vm] 24)).alloc (.cells #[.int .i64 q.c, .int .i64 q.st, .int .i64 q.k, .string q.key, .int .u64 (q.b : Int), .int .i64 q.id] 28)) ep vm q :=
  ⟨(Below.heap_alloc _ _ _ (by simp)).trans (heap_alloc_last w _), snd_alloc w _ _, ((Below.refl w.heap.size w).alloc (Nat.le_refl _) _).alloc (by simp) _⟩
set_option maxRecDepth 100000 in
set_option maxHeartbeats 3200000 in
/-- No ledger comes of it. -/
theorem ldonce_no (ep : Int) (a : Option Addr) (n cap : Nat) (l : List Int) (hn : l.length = n) (hm : n ≤ maxLen) (sa : Option Addr) (sn sc : Nat) (q : Rq) (w : World) (hI : IntsIn w a l) (hr : rightC ep l = false ∨ ep ≠ 0) :
    Calls Try.prog 3 #[.agg #[.int .i64 ep, .slice a n cap], .slice sa sn sc, .agg #[.int .i64 q.c, .int .i64 q.st, .int .i64 q.k, .string q.key, .int .u64 (q.b : Int), .int .i64 q.id]] w fun r w' => r = .returned (.bool true) ∧ Below w.heap.size w w' := by
  have H0 := hid (oc_start w ep (.slice a n cap) q)
  have HPl : Hid (∀ u : World, OcSt w u ep (.slice a n cap) q → Calls Try.prog 6 #[.agg #[.int .i64 ep, .slice a n cap], .slice sa sn sc] u fun e w' => e = .returned (.pointer none) ∧ OcSt w w' ep (.slice a n cap) q) := hid (fun u hu =>
    (eplayed_no ep a n cap l hn hm sa sn sc u (hI.keep hu.bel (Nat.le_refl _)) hr).mono fun e w' ⟨h1, h2⟩ => ⟨h1, hu.keep h2⟩)
  clear hI hr hn hm
  go_enter Try.func3, Try.ntmps3
  go_wp2_with (first
    | (go_at_call 5; refine (elives_any _).mono ?_; rintro e w1 ⟨rfl, hb⟩; have H1 := hid (H0.out.keep hb); clear hb; obtain ⟨x0, x1⟩ := H1.out.cf.cells)
    | (go_at_call 6; refine (HPl.out _ H1.out).mono ?_; rintro e w2 ⟨rfl, h⟩; have H2 := hid h; clear h x0 x1; obtain ⟨⟨z0, z1⟩, z2, z3, z4, z5⟩ := H2.out.ak.cells)
    | (go_at_call 7; refine (drequest_any q _).mono ?_; rintro e w3 ⟨rfl, hb⟩; have H3 := hid (H2.out.keep hb); clear hb z0 z1 z2 z3 z4 z5)
    | (refine wl_store_rq rfl _ _ rfl w3.heap.size rfl zeroQ q rfl (heap_alloc_last w3 _) ?_; intro w4 Hz; have H4 := hid (H3.out.keep (Hz.out.2.below ((Below.refl w3.heap.size w3).alloc (Nat.le_refl _) _) (Nat.le_refl _)))))
  go_ret
  exact ⟨rfl, H4.out.bel⟩
set_option maxRecDepth 100000 in
set_option maxHeartbeats 3200000 in
/-- The request is not right. -/
theorem ldonce_not (a : Option Addr) (n cap : Nat) (l : List Int) (hn : l.length = n) (sa : Option Addr) (sc : Nat) (os : List Stp) (hol : os.length ≤ maxLen) (hos : ∀ o, o ∈ os → stB o) (q : Rq) (hq : rightB q = false) (w : World) (hI : IntsIn w a l) (hr : rightC 0 l = true) (hS : StpsIn w sa os) :
    Calls Try.prog 3 #[.agg #[.int .i64 0, .slice a n cap], .slice sa os.length sc, .agg #[.int .i64 q.c, .int .i64 q.st, .int .i64 q.k, .string q.key, .int .u64 (q.b : Int), .int .i64 q.id]] w fun r w' => r = .returned (.bool true) ∧ Below w.heap.size w w' := by
  have H0 := hid (oc_start w 0 (.slice a n cap) q)
  have HPl : Hid (∀ u : World, OcSt w u 0 (.slice a n cap) q → Calls Try.prog 6 #[.agg #[.int .i64 0, .slice a n cap], .slice sa os.length sc] u fun e w' => (∃ g, e = .returned (.pointer (some ⟨g, 0, none⟩))) ∧ OcSt w w' 0 (.slice a n cap) q) := hid (fun u hu =>
    (eplayed_yes a n cap l hn sa sc os hol hos u (hI.keep hu.bel (Nat.le_refl _)) hr (hS.keep hu.bel (Nat.le_refl _))).mono fun e w' ⟨g, F, h1, h2⟩ => ⟨⟨g, h1⟩, hu.keep h2.bel⟩)
  have HRq : Hid (∀ u, Calls Try.prog 8 #[.agg #[.int .i64 q.c, .int .i64 q.st, .int .i64 q.k, .string q.key, .float .f64 q.b, .int .i64 q.id]] u fun e w' => e = .returned (.bool false) ∧ Below u.heap.size u w') := hid (fun u => by have := qright_any q u; rw [hq] at this; exact this)
  clear hI hr hn hS hos hol hq
  go_enter Try.func3, Try.ntmps3
  go_wp2_with (first
    | (go_at_call 5; refine (elives_any _).mono ?_; rintro e w1 ⟨rfl, hb⟩; have H1 := hid (H0.out.keep hb); clear hb; obtain ⟨x0, x1⟩ := H1.out.cf.cells)
    | (go_at_call 6; refine (HPl.out _ H1.out).mono ?_; rintro e w2 ⟨⟨g, rfl⟩, h⟩; have H2 := hid h; clear h x0 x1; obtain ⟨⟨z0, z1⟩, z2, z3, z4, z5⟩ := H2.out.ak.cells)
    | (go_at_call 7; refine (drequest_any q _).mono ?_; rintro e w3 ⟨rfl, hb⟩; have H3 := hid (H2.out.keep hb); clear hb z0 z1 z2 z3 z4 z5)
    | (refine wl_store_rq rfl _ _ rfl w3.heap.size rfl zeroQ q rfl (heap_alloc_last w3 _) ?_; intro w4 Hz; have H4 := hid (And.intro Hz.out.1 (H3.out.keep (Hz.out.2.below ((Below.refl w3.heap.size w3).alloc (Nat.le_refl _) _) (Nat.le_refl _)))); obtain ⟨⟨y0, y1⟩, y2, y3, y4, y5⟩ := H4.out.1.cells)
    | (go_at_call 8; refine (HRq.out _).mono ?_; rintro e w5 ⟨rfl, hb⟩; have H5 := hid (H4.out.2.keep hb); clear hb))
  go_ret
  exact ⟨rfl, H5.out.bel⟩

set_option maxRecDepth 100000 in
set_option maxHeartbeats 12800000 in
theorem ldonce_full (a : Option Addr) (n cap : Nat) (l : List Int) (hn : l.length = n) (sa : Option Addr) (sc : Nat) (os : List Stp) (hol : os.length ≤ maxLen) (hos : ∀ o, o ∈ os → stB o) (q : Rq) (hq : rightB q = true) (hqb : q.b < 18446744073709551616) (hqk : q.key.size ≤ maxLen) (w : World) (hI : IntsIn w a l) (hr : rightC 0 l = true) (hS : StpsIn w sa os)
    (hF : fullS (playS (newS l) os) = true) :
    Calls Try.prog 3 #[.agg #[.int .i64 0, .slice a n cap], .slice sa os.length sc, .agg #[.int .i64 q.c, .int .i64 q.st, .int .i64 q.k, .string q.key, .int .u64 (q.b : Int), .int .i64 q.id]] w fun r w' => r = .returned (.bool true) ∧ Below w.heap.size w w' := by
  have H0 := hid (oc_start w 0 (.slice a n cap) q)
  have HPl : Hid (∀ u : World, OcSt w u 0 (.slice a n cap) q → Calls Try.prog 6 #[.agg #[.int .i64 0, .slice a n cap], .slice sa os.length sc] u fun e w' => ∃ g F, e = .returned (.pointer (some ⟨g, 0, none⟩)) ∧ OcSt w w' 0 (.slice a n cap) q ∧ LvSt w w' F (.pointer (some ⟨g, 0, none⟩)) (playS (newS l) os)) := hid (fun u hu =>
    (eplayed_yes a n cap l hn sa sc os hol hos u (hI.keep hu.bel (Nat.le_refl _)) hr (hS.keep hu.bel (Nat.le_refl _))).mono fun e w' ⟨g, F, h1, h2⟩ => ⟨g, F, h1, hu.keep h2.bel, ⟨h2.ld, fun b hb => Nat.le_trans hu.bel.size (h2.new b hb), (hu.keep h2.bel).bel⟩⟩)
  have HRq : Hid (∀ u, Calls Try.prog 8 #[.agg #[.int .i64 q.c, .int .i64 q.st, .int .i64 q.k, .string q.key, .float .f64 q.b, .int .i64 q.id]] u fun e w' => e = .returned (.bool true) ∧ Below u.heap.size u w') := hid (fun u => by have := qright_any q u; rw [hq] at this; exact this)
  have HSm : Hid (∀ (c : Int) (f : Nat) (u : World), Calls Try.prog 13 #[.agg #[.int .i64 c, .float .f64 f], .agg #[.int .i64 c, .float .f64 f]] u fun e w' => e = .returned (.bool true) ∧ Below u.heap.size u w') := hid (fun c f u => by have := qsameResult_any c f c f u; rw [sameS_refl] at this; exact this)
  have HDo : Hid (∀ (u : World) (F : List Nat) (v : Value), LdAt F u v (playS (newS l) os) → Calls Try.prog 9 #[v, .agg #[.int .i64 q.c, .int .i64 q.st, .int .i64 q.k, .string q.key, .float .f64 q.b, .int .i64 q.id]] u fun e w' => (∃ C G, e = .returned (.tuple #[.agg #[.int .i64 C, .float .f64 G], .int .i64 18])) ∧ LdTo F u w' v (playS (newS l) os)) := hid (fun u F v hu =>
    (gdo_any hu q hqb).mono fun e w' ⟨h1, h2⟩ => by
      obtain ⟨x1, x2⟩ := do_full hq hF
      rw [x1] at h1
      rw [x2] at h2
      exact ⟨⟨_, _, h1⟩, h2⟩)
  have HFu : Hid (∀ (u : World) (F : List Nat) (v : Value), LdAt F u v (playS (newS l) os) → Calls Try.prog 10 #[v] u fun e w' => e = .returned (.bool true) ∧ Below u.heap.size u w') := hid (fun u F v hu => by have := gfullT hu; rw [hF] at this; exact this)
  have HK := hid hqk
  clear hI hr hn hS hos hol hq hqb hqk
  generalize playS (newS l) os = S0 at *
  clear hF
  go_enter Try.func3, Try.ntmps3
  go_wp2_with (first
    | (go_at_call 5; refine (elives_any _).mono ?_; rintro e w1 ⟨rfl, hb⟩; have H1 := hid (H0.out.keep hb); clear hb; obtain ⟨x0, x1⟩ := H1.out.cf.cells)
    | (go_at_call 6; refine (HPl.out _ H1.out).mono ?_; rintro e w2 ⟨g, F2, rfl, h, h2⟩; have H2 := hid (And.intro h (SgSt.of h2)); clear h h2 x0 x1; obtain ⟨⟨z0, z1⟩, z2, z3, z4, z5⟩ := H2.out.1.ak.cells)
    | (go_at_call 7; refine (drequest_any q _).mono ?_; rintro e w3 ⟨rfl, hb⟩; have H3 := hid (H2.out.2.keep hb); clear hb z0 z1 z2 z3 z4 z5)
    | (have := H3; refine wl_store_rq rfl _ _ rfl w3.heap.size rfl zeroQ q rfl (heap_alloc_last w3 _) ?_; intro w4 Hz; have H4 := hid (H3.out.req Hz.out); clear Hz; obtain ⟨⟨y0, y1⟩, y2, y3, y4, y5⟩ := H4.out.r.1.cells)
    | (go_at_call 8; refine (HRq.out _).mono ?_; rintro e w5 ⟨rfl, hb⟩; have H5 := hid (H4.out.keep hb); clear hb y0 y1 y2 y3 y4 y5; obtain ⟨⟨y0, y1⟩, y2, y3, y4, y5⟩ := H5.out.r.1.cells)
    | (go_at_call 9; refine (HDo.out _ _ _ H5.out.lv.ld).mono ?_; rintro e w6 ⟨⟨C, G, rfl⟩, h⟩; have H6 := hid (H5.out.to h); clear h y0 y1 y2 y3 y4 y5)
    | (have := H6; refine wl_store_rs rfl _ _ rfl w6.heap.size rfl 0 C 0 G rfl (heap_alloc_last w6 _) ?_; intro w7 Hz; obtain ⟨F6, h6⟩ := H6.out; have H7 := hid (h6.res Hz.out); clear Hz h6 H6)
    | (go_at_call 10; refine (HFu.out _ _ _ H7.out.lv.ld).mono ?_; rintro e w8 ⟨rfl, hb⟩; have H8 := hid (H7.out.keep hb); clear hb))
  go_ret
  exact ⟨rfl, H8.out.lv.bel⟩

set_option maxRecDepth 100000 in
set_option maxHeartbeats 12800000 in
theorem ldonce_then (a : Option Addr) (n cap : Nat) (l : List Int) (hn : l.length = n) (sa : Option Addr) (sc : Nat) (os : List Stp) (hol : os.length ≤ maxLen) (hos : ∀ o, o ∈ os → stB o) (q : Rq) (hq : rightB q = true) (hqb : q.b < 18446744073709551616) (hqk : q.key.size ≤ maxLen) (w : World) (hI : IntsIn w a l) (hr : rightC 0 l = true) (hS : StpsIn w sa os)
    (hF : fullS (playS (newS l) os) = false) (hF2 : fullS (doS (playS (newS l) os) q) = true) :
    Calls Try.prog 3 #[.agg #[.int .i64 0, .slice a n cap], .slice sa os.length sc, .agg #[.int .i64 q.c, .int .i64 q.st, .int .i64 q.k, .string q.key, .int .u64 (q.b : Int), .int .i64 q.id]] w fun r w' => r = .returned (.bool true) ∧ Below w.heap.size w w' := by
  have H0 := hid (oc_start w 0 (.slice a n cap) q)
  have HPl : Hid (∀ u : World, OcSt w u 0 (.slice a n cap) q → Calls Try.prog 6 #[.agg #[.int .i64 0, .slice a n cap], .slice sa os.length sc] u fun e w' => ∃ g F, e = .returned (.pointer (some ⟨g, 0, none⟩)) ∧ OcSt w w' 0 (.slice a n cap) q ∧ LvSt w w' F (.pointer (some ⟨g, 0, none⟩)) (playS (newS l) os)) := hid (fun u hu =>
    (eplayed_yes a n cap l hn sa sc os hol hos u (hI.keep hu.bel (Nat.le_refl _)) hr (hS.keep hu.bel (Nat.le_refl _))).mono fun e w' ⟨g, F, h1, h2⟩ => ⟨g, F, h1, hu.keep h2.bel, ⟨h2.ld, fun b hb => Nat.le_trans hu.bel.size (h2.new b hb), (hu.keep h2.bel).bel⟩⟩)
  have HRq : Hid (∀ u, Calls Try.prog 8 #[.agg #[.int .i64 q.c, .int .i64 q.st, .int .i64 q.k, .string q.key, .float .f64 q.b, .int .i64 q.id]] u fun e w' => e = .returned (.bool true) ∧ Below u.heap.size u w') := hid (fun u => by have := qright_any q u; rw [hq] at this; exact this)
  have HSm : Hid (∀ (c : Int) (f : Nat) (u : World), Calls Try.prog 13 #[.agg #[.int .i64 c, .float .f64 f], .agg #[.int .i64 c, .float .f64 f]] u fun e w' => e = .returned (.bool true) ∧ Below u.heap.size u w') := hid (fun c f u => by have := qsameResult_any c f c f u; rw [sameS_refl] at this; exact this)
  have HDo : Hid (∀ (u : World) (F : List Nat) (v : Value), LdAt F u v (playS (newS l) os) → Calls Try.prog 9 #[v, .agg #[.int .i64 q.c, .int .i64 q.st, .int .i64 q.k, .string q.key, .float .f64 q.b, .int .i64 q.id]] u fun e w' => (∃ C G, e = .returned (.tuple #[.agg #[.int .i64 C, .float .f64 G], .int .i64 0])) ∧ LdTo F u w' v (doS (playS (newS l) os) q)) := hid (fun u F v hu =>
    (gdo_any hu q hqb).mono fun e w' ⟨h1, h2⟩ => by
      rw [(do_right hq hF).1] at h1
      exact ⟨⟨_, _, h1⟩, h2⟩)
  have HD2 : Hid (∀ (u : World) (F : List Nat) (v : Value), LdAt F u v (doS (playS (newS l) os) q) → Calls Try.prog 9 #[v, .agg #[.int .i64 q.c, .int .i64 q.st, .int .i64 q.k, .string q.key, .float .f64 q.b, .int .i64 q.id]] u fun e w' => (∃ C G, e = .returned (.tuple #[.agg #[.int .i64 C, .float .f64 G], .int .i64 18])) ∧ LdTo F u w' v (doS (playS (newS l) os) q)) := hid (fun u F v hu =>
    (gdo_any hu q hqb).mono fun e w' ⟨h1, h2⟩ => by
      obtain ⟨x1, x2⟩ := do_full hq hF2
      rw [x1] at h1
      rw [x2] at h2
      exact ⟨⟨_, _, h1⟩, h2⟩)
  have HLa : Hid (∀ (u : World) (F : List Nat) (v : Value), LdAt F u v (doS (playS (newS l) os) q) → Calls Try.prog 11 #[v, .int .i64 q.c] u fun e w' => (∃ T C G, e = .returned (.tuple #[.int .i64 T, .agg #[.int .i64 C, .float .f64 G]])) ∧ Below u.heap.size u w') := hid (fun u F v hu =>
    (glastT hu (clN q) (cl_lt hq).1 q.c (by have := (cl_lt hq).2; omega)).mono fun e w' ⟨h1, h2⟩ => ⟨⟨_, _, _, h1⟩, h2⟩)
  have HFu : Hid (∀ (u : World) (F : List Nat) (v : Value), LdAt F u v (doS (playS (newS l) os) q) → Calls Try.prog 10 #[v] u fun e w' => e = .returned (.bool true) ∧ Below u.heap.size u w') := hid (fun u F v hu => by have := gfullT hu; rw [hF2] at this; exact this)
  have HK := hid hqk
  clear hI hr hn hS hos hol hq hqb hqk
  clear hF hF2
  generalize doS (playS (newS l) os) q = S1 at *
  generalize playS (newS l) os = S0 at *
  go_enter Try.func3, Try.ntmps3
  go_wp2_with (first
    | (go_at_call 5; refine (elives_any _).mono ?_; rintro e w1 ⟨rfl, hb⟩; have H1 := hid (H0.out.keep hb); clear hb; obtain ⟨x0, x1⟩ := H1.out.cf.cells)
    | (go_at_call 6; refine (HPl.out _ H1.out).mono ?_; rintro e w2 ⟨g, F2, rfl, h, h2⟩; have H2 := hid (And.intro h (SgSt.of h2)); clear h h2 x0 x1; obtain ⟨⟨z0, z1⟩, z2, z3, z4, z5⟩ := H2.out.1.ak.cells)
    | (go_at_call 7; refine (drequest_any q _).mono ?_; rintro e w3 ⟨rfl, hb⟩; have H3 := hid (H2.out.2.keep hb); clear hb z0 z1 z2 z3 z4 z5)
    | (have := H3; refine wl_store_rq rfl _ _ rfl w3.heap.size rfl zeroQ q rfl (heap_alloc_last w3 _) ?_; intro w4 Hz; have H4 := hid (H3.out.req Hz.out); clear Hz; obtain ⟨⟨y0, y1⟩, y2, y3, y4, y5⟩ := H4.out.r.1.cells)
    | (go_at_call 8; refine (HRq.out _).mono ?_; rintro e w5 ⟨rfl, hb⟩; have H5 := hid (H4.out.keep hb); clear hb y0 y1 y2 y3 y4 y5; obtain ⟨⟨y0, y1⟩, y2, y3, y4, y5⟩ := H5.out.r.1.cells)
    | (have := H10; go_at_call 9; refine (HD2.out _ _ _ H10.out.lv.ld).mono ?_; rintro e w11 ⟨⟨C3, G3, rfl⟩, h⟩; have H11 := hid (H10.out.to h); clear h y0 y1 y2 y3 y4 y5)
    | (go_at_call 9; refine (HDo.out _ _ _ H5.out.lv.ld).mono ?_; rintro e w6 ⟨⟨C, G, rfl⟩, h⟩; have H6 := hid (H5.out.to h); clear h y0 y1 y2 y3 y4 y5)
    | (have := H11; refine wl_store_rs rfl _ _ rfl w11.heap.size rfl 0 C3 0 G3 rfl (heap_alloc_last w11 _) ?_; intro w12 Hz; obtain ⟨F11, h11⟩ := H11.out; have H12 := hid (h11.res Hz.out); clear Hz h11 H11)
    | (have := H8; refine wl_store_rs rfl _ _ rfl w8.heap.size rfl 0 C2 0 G2 rfl (heap_alloc_last w8 _) ?_; intro w9 Hz; have H9 := hid (H8.out.res Hz.out); clear Hz)
    | (have := H6; refine wl_store_rs rfl _ _ rfl w6.heap.size rfl 0 C 0 G rfl (heap_alloc_last w6 _) ?_; intro w7 Hz; obtain ⟨F6, h6⟩ := H6.out; have H7 := hid (h6.res Hz.out); clear Hz h6 H6; obtain ⟨⟨y0, y1⟩, y2, y3, y4, y5⟩ := H7.out.r.2.1.cells)
    | (go_at_call 11; refine (HLa.out _ _ _ H7.out.lv.ld).mono ?_; rintro e w8 ⟨⟨T2, C2, G2, rfl⟩, hb⟩; have H8 := hid (H7.out.keep hb); clear hb y0 y1 y2 y3 y4 y5)
    | (go_at_call 12; refine (gcopy_any H9.out.lv.ld).mono ?_; rintro e w10 ⟨v10, F10, rfl, h1, h2, h3⟩; have H10 := hid (H9.out.copy h1 h2 h3); clear h1 h2 h3; obtain ⟨⟨y0, y1⟩, y2, y3, y4, y5⟩ := H10.out.r.2.2.2.1.cells)
    | (go_at_call 10; refine (HFu.out _ _ _ H12.out.lv.ld).mono ?_; rintro e w13 ⟨rfl, hb⟩; have H13 := hid (H12.out.keep hb); clear hb))
  go_ret
  exact ⟨rfl, H13.out.lv.bel⟩

set_option maxRecDepth 100000 in
set_option maxHeartbeats 12800000 in
theorem ldonce_old (a : Option Addr) (n cap : Nat) (l : List Int) (hn : l.length = n) (sa : Option Addr) (sc : Nat) (os : List Stp) (hol : os.length ≤ maxLen) (hos : ∀ o, o ∈ os → stB o) (q : Rq) (hq : rightB q = true) (hqb : q.b < 18446744073709551616) (hqk : q.key.size ≤ maxLen) (w : World) (hI : IntsIn w a l) (hr : rightC 0 l = true) (hS : StpsIn w sa os)
    (hF : fullS (playS (newS l) os) = false) (hF2 : fullS (doS (playS (newS l) os) q) = false) (hC : doC (playS (newS l) os) q = 7) :
    Calls Try.prog 3 #[.agg #[.int .i64 0, .slice a n cap], .slice sa os.length sc, .agg #[.int .i64 q.c, .int .i64 q.st, .int .i64 q.k, .string q.key, .int .u64 (q.b : Int), .int .i64 q.id]] w fun r w' => r = .returned (.bool true) ∧ Below w.heap.size w w' := by
  have H0 := hid (oc_start w 0 (.slice a n cap) q)
  have HPl : Hid (∀ u : World, OcSt w u 0 (.slice a n cap) q → Calls Try.prog 6 #[.agg #[.int .i64 0, .slice a n cap], .slice sa os.length sc] u fun e w' => ∃ g F, e = .returned (.pointer (some ⟨g, 0, none⟩)) ∧ OcSt w w' 0 (.slice a n cap) q ∧ LvSt w w' F (.pointer (some ⟨g, 0, none⟩)) (playS (newS l) os)) := hid (fun u hu =>
    (eplayed_yes a n cap l hn sa sc os hol hos u (hI.keep hu.bel (Nat.le_refl _)) hr (hS.keep hu.bel (Nat.le_refl _))).mono fun e w' ⟨g, F, h1, h2⟩ => ⟨g, F, h1, hu.keep h2.bel, ⟨h2.ld, fun b hb => Nat.le_trans hu.bel.size (h2.new b hb), (hu.keep h2.bel).bel⟩⟩)
  have HRq : Hid (∀ u, Calls Try.prog 8 #[.agg #[.int .i64 q.c, .int .i64 q.st, .int .i64 q.k, .string q.key, .float .f64 q.b, .int .i64 q.id]] u fun e w' => e = .returned (.bool true) ∧ Below u.heap.size u w') := hid (fun u => by have := qright_any q u; rw [hq] at this; exact this)
  have HSm : Hid (∀ (c : Int) (f : Nat) (u : World), Calls Try.prog 13 #[.agg #[.int .i64 c, .float .f64 f], .agg #[.int .i64 c, .float .f64 f]] u fun e w' => e = .returned (.bool true) ∧ Below u.heap.size u w') := hid (fun c f u => by have := qsameResult_any c f c f u; rw [sameS_refl] at this; exact this)
  have hok : LOk (playS (newS l) os) := play_ok (newS_ok hr) os hos
  obtain ⟨g1, g2, g3, g4, g5⟩ := do_again hok hq hF hF2
  have hok1 : LOk (doS (playS (newS l) os) q) := doS_ok hok hqb
  have hN : ((doS (playS (newS l) os) q).dn : Int) ≤ 244 := by have := hok1.hi; have := hok1.ep; omega
  have HDo : Hid (∀ (u : World) (F : List Nat) (v : Value), LdAt F u v (playS (newS l) os) → Calls Try.prog 9 #[v, .agg #[.int .i64 q.c, .int .i64 q.st, .int .i64 q.k, .string q.key, .float .f64 q.b, .int .i64 q.id]] u fun e w' => e = .returned (.tuple #[.agg #[.int .i64 (doC (playS (newS l) os) q), .float .f64 (doF (playS (newS l) os) q)], .int .i64 0]) ∧ LdTo F u w' v (doS (playS (newS l) os) q)) := hid (fun u F v hu => (gdo_any hu q hqb).mono fun e w' ⟨h1, h2⟩ => ⟨by rw [(do_right hq hF).1] at h1; exact h1, h2⟩)
  have HD2 : Hid (∀ (u : World) (F : List Nat) (v : Value), LdAt F u v (doS (playS (newS l) os) q) → Calls Try.prog 9 #[v, .agg #[.int .i64 q.c, .int .i64 q.st, .int .i64 q.k, .string q.key, .float .f64 q.b, .int .i64 q.id]] u fun e w' => e = .returned (.tuple #[.agg #[.int .i64 (doC (playS (newS l) os) q), .float .f64 (doF (playS (newS l) os) q)], .int .i64 0]) ∧ LdTo F u w' v (moreS (doS (playS (newS l) os) q))) := hid (fun u F v hu => (gdo_any hu q hqb).mono fun e w' ⟨h1, h2⟩ => ⟨by rw [g1, g3, g4] at h1; exact h1, by rw [g2] at h2; exact h2⟩)
  have HLa : Hid (∀ (u : World) (F : List Nat) (v : Value), LdAt F u v (doS (playS (newS l) os) q) → Calls Try.prog 11 #[v, .int .i64 q.c] u fun e w' => e = .returned (.tuple #[.int .i64 (((doS (playS (newS l) os) q).at (clN q)).1 : Int), .agg #[.int .i64 ((doS (playS (newS l) os) q).at (clN q)).2.1, .float .f64 ((doS (playS (newS l) os) q).at (clN q)).2.2]]) ∧ Below u.heap.size u w') := hid (fun u F v hu => glastT hu (clN q) (cl_lt hq).1 q.c (by have := (cl_lt hq).2; omega))
  have HL2 : Hid (∀ (u : World) (F : List Nat) (v : Value), LdAt F u v (moreS (doS (playS (newS l) os) q)) → Calls Try.prog 11 #[v, .int .i64 q.c] u fun e w' => e = .returned (.tuple #[.int .i64 (((doS (playS (newS l) os) q).at (clN q)).1 : Int), .agg #[.int .i64 ((doS (playS (newS l) os) q).at (clN q)).2.1, .float .f64 ((doS (playS (newS l) os) q).at (clN q)).2.2]]) ∧ Below u.heap.size u w') := hid (fun u F v hu => glastT hu (clN q) (cl_lt hq).1 q.c (by have := (cl_lt hq).2; omega))
  have HDn : Hid (∀ (u : World) (F : List Nat) (v : Value), LdAt F u v (doS (playS (newS l) os) q) → Calls Try.prog 14 #[v] u fun e w' => e = .returned (.int .i64 ((doS (playS (newS l) os) q).dn : Int)) ∧ Below u.heap.size u w') := hid (fun u F v hu => gdoneT hu)
  have HN2 : Hid (∀ (u : World) (F : List Nat) (v : Value), LdAt F u v (moreS (doS (playS (newS l) os) q)) → Calls Try.prog 14 #[v] u fun e w' => e = .returned (.int .i64 (((doS (playS (newS l) os) q).dn : Int) + 1)) ∧ Below u.heap.size u w') := hid (fun u F v hu => gdoneT hu)
  have HGt : Hid (∀ (u : World) (F : List Nat) (v : Value), LdAt F u v (doS (playS (newS l) os) q) → Calls Try.prog 15 #[v, .string q.key] u fun e w' => e = .returned (.tuple #[.float .f64 (valK q.key (doS (playS (newS l) os) q).its), .bool (getK q.key (doS (playS (newS l) os) q).its).isSome]) ∧ Below u.heap.size u w') := hid (fun u F v hu => ggetT hu q.key hqk)
  have HG2 : Hid (∀ (u : World) (F : List Nat) (v : Value), LdAt F u v (moreS (doS (playS (newS l) os) q)) → Calls Try.prog 15 #[v, .string q.key] u fun e w' => e = .returned (.tuple #[.float .f64 (valK q.key (doS (playS (newS l) os) q).its), .bool (getK q.key (doS (playS (newS l) os) q).its).isSome]) ∧ Below u.heap.size u w') := hid (fun u F v hu => ggetT hu q.key hqk)
  have HNx : Hid (∀ (u : World) (F : List Nat) (v : Value), LdAt F u v (doS (playS (newS l) os) q) → Calls Try.prog 18 #[v] u fun e w' => ∃ a1 c1, e = .returned (.slice a1 (doS (playS (newS l) os) q).nxt.length c1) ∧ NewI u.heap.size w' a1 (doS (playS (newS l) os) q).nxt ∧ Below u.heap.size u w') := hid (fun u F v hu => gnextT (s := (doS (playS (newS l) os) q)) hu)
  have HX2 : Hid (∀ (u : World) (F : List Nat) (v : Value), LdAt F u v (moreS (doS (playS (newS l) os) q)) → Calls Try.prog 18 #[v] u fun e w' => ∃ a1 c1, e = .returned (.slice a1 (doS (playS (newS l) os) q).nxt.length c1) ∧ NewI u.heap.size w' a1 (doS (playS (newS l) os) q).nxt ∧ Below u.heap.size u w') := hid (fun u F v hu => gnextT (s := (moreS (doS (playS (newS l) os) q))) hu)
  have HLn : Hid ((doS (playS (newS l) os) q).nxt.length ≤ maxLen) := hid (by have := mem_len hok1.nx; unfold maxLen; omega)
  have HK := hid hqk
  clear hI hr hn hS hos hol hq hqb hqk
  rw [hC] at HDo HD2
  clear hF hF2 hok hok1 g1 g2 g3 g4 g5 hC
  generalize ((doS (playS (newS l) os) q).at (clN q)).2.1 = K at *
  generalize ((doS (playS (newS l) os) q).at (clN q)).2.2 = M at *
  generalize (((doS (playS (newS l) os) q).at (clN q)).1 : Int) = T at *
  generalize doF (playS (newS l) os) q = G at *
  generalize valK q.key (doS (playS (newS l) os) q).its = V at *
  generalize (getK q.key (doS (playS (newS l) os) q).its).isSome = B at *
  generalize (doS (playS (newS l) os) q).nxt = X at *
  have hN0 : (0 : Int) ≤ ((doS (playS (newS l) os) q).dn : Int) := Int.natCast_nonneg _
  generalize ((doS (playS (newS l) os) q).dn : Int) = N at *
  generalize (moreS (doS (playS (newS l) os) q)) = S2 at *
  generalize (doS (playS (newS l) os) q) = S1 at *
  generalize (playS (newS l) os) = S0 at *
  go_enter Try.func3, Try.ntmps3
  go_wp2_with (first
    | (go_at_call 5; refine (elives_any _).mono ?_; rintro e w1 ⟨rfl, hb⟩; have H1 := hid (H0.out.keep hb); clear hb; obtain ⟨x0, x1⟩ := H1.out.cf.cells)
    | (go_at_call 6; refine (HPl.out _ H1.out).mono ?_; rintro e w2 ⟨g, F2, rfl, h, h2⟩; have H2 := hid (And.intro h (SgSt.of h2)); clear h h2 x0 x1; obtain ⟨⟨z0, z1⟩, z2, z3, z4, z5⟩ := H2.out.1.ak.cells)
    | (go_at_call 7; refine (drequest_any q _).mono ?_; rintro e w3 ⟨rfl, hb⟩; have H3 := hid (H2.out.2.keep hb); clear hb z0 z1 z2 z3 z4 z5)
    | (have := H3; refine wl_store_rq rfl _ _ rfl w3.heap.size rfl zeroQ q rfl (heap_alloc_last w3 _) ?_; intro w4 Hz; have H4 := hid (H3.out.req Hz.out); clear Hz; obtain ⟨⟨y0, y1⟩, y2, y3, y4, y5⟩ := H4.out.r.1.cells)
    | (go_at_call 8; refine (HRq.out _).mono ?_; rintro e w5 ⟨rfl, hb⟩; have H5 := hid (H4.out.keep hb); clear hb y0 y1 y2 y3 y4 y5; obtain ⟨⟨y0, y1⟩, y2, y3, y4, y5⟩ := H5.out.r.1.cells)
    | (have := H10; go_at_call 9; refine (HD2.out _ _ _ H10.out.lv.ld).mono ?_; rintro e w11 ⟨rfl, h⟩; have H11 := hid (H10.out.to h); clear h y0 y1 y2 y3 y4 y5)
    | (go_at_call 9; refine (HDo.out _ _ _ H5.out.lv.ld).mono ?_; rintro e w6 ⟨rfl, h⟩; have H6 := hid (H5.out.to h); clear h y0 y1 y2 y3 y4 y5)
    | (have := H17; refine wl_store_rs rfl _ _ rfl w17.heap.size rfl 0 K 0 M rfl (heap_alloc_last w17 _) ?_; intro w18 Hz; have H18 := hid (H17.out.res Hz.out); clear Hz; clear o0 o1 k0 k1 p0 p1 y0 y1 y2 y3 y4 y5; obtain ⟨o0, o1⟩ := H18.out.r.2.1.cells; obtain ⟨k0, k1⟩ := H18.out.r.2.2.2.1.cells; obtain ⟨p0, p1⟩ := H18.out.r.2.2.2.2.1.cells; obtain ⟨q0, q1⟩ := H18.out.r.1.cells; obtain ⟨⟨y0, y1⟩, y2, y3, y4, y5⟩ := H18.out.r.2.2.2.2.2.1.cells)
    | (have := H11; refine wl_store_rs rfl _ _ rfl w11.heap.size rfl 0 7 0 G rfl (heap_alloc_last w11 _) ?_; intro w12 Hz; obtain ⟨F11, h11⟩ := H11.out; have H12 := hid (h11.res Hz.out); clear Hz h11 H11; obtain ⟨o0, o1⟩ := H12.out.r.1.cells; obtain ⟨k0, k1⟩ := H12.out.r.2.2.1.cells; obtain ⟨p0, p1⟩ := H12.out.r.2.2.2.1.cells; obtain ⟨⟨y0, y1⟩, y2, y3, y4, y5⟩ := H12.out.r.2.2.2.2.1.cells)
    | (have := H8; refine wl_store_rs rfl _ _ rfl w8.heap.size rfl 0 K 0 M rfl (heap_alloc_last w8 _) ?_; intro w9 Hz; have H9 := hid (H8.out.res Hz.out); clear Hz)
    | (have := H6; refine wl_store_rs rfl _ _ rfl w6.heap.size rfl 0 7 0 G rfl (heap_alloc_last w6 _) ?_; intro w7 Hz; obtain ⟨F6, h6⟩ := H6.out; have H7 := hid (h6.res Hz.out); clear Hz h6 H6; obtain ⟨⟨y0, y1⟩, y2, y3, y4, y5⟩ := H7.out.r.2.1.cells)
    | (have := H16; go_at_call 11; refine (HL2.out _ _ _ H16.out.lv.ld).mono ?_; rintro e w17 ⟨rfl, hb⟩; have H17 := hid (H16.out.keep hb); clear hb; clear o0 o1 k0 k1 p0 p1 y0 y1 y2 y3 y4 y5; obtain ⟨o0, o1⟩ := H17.out.r.1.cells; obtain ⟨k0, k1⟩ := H17.out.r.2.2.1.cells; obtain ⟨p0, p1⟩ := H17.out.r.2.2.2.1.cells; obtain ⟨⟨y0, y1⟩, y2, y3, y4, y5⟩ := H17.out.r.2.2.2.2.1.cells)
    | (go_at_call 11; refine (HLa.out _ _ _ H7.out.lv.ld).mono ?_; rintro e w8 ⟨rfl, hb⟩; have H8 := hid (H7.out.keep hb); clear hb y0 y1 y2 y3 y4 y5)
    | (go_at_call 12; refine (gcopy_any H9.out.lv.ld).mono ?_; rintro e w10 ⟨v10, F10, rfl, h1, h2, h3⟩; have H10 := hid (H9.out.copy h1 h2 h3); clear h1 h2 h3; obtain ⟨⟨y0, y1⟩, y2, y3, y4, y5⟩ := H10.out.r.2.2.2.1.cells)
    | (have := H20; go_at_call 13; refine (HSm.out K M _).mono ?_; rintro e w21 ⟨rfl, hb⟩; have H21 := hid (H20.out.keep hb); clear hb)
    | (go_at_call 13; refine (HSm.out 7 G _).mono ?_; rintro e w13 ⟨rfl, hb⟩; have H13 := hid (H12.out.keep hb); clear hb; clear o0 o1 k0 k1 p0 p1 y0 y1 y2 y3 y4 y5; obtain ⟨o0, o1⟩ := H13.out.r.1.cells; obtain ⟨k0, k1⟩ := H13.out.r.2.2.1.cells; obtain ⟨p0, p1⟩ := H13.out.r.2.2.2.1.cells; obtain ⟨⟨y0, y1⟩, y2, y3, y4, y5⟩ := H13.out.r.2.2.2.2.1.cells)
    | (have := H15; go_at_call 14; refine (HDn.out _ _ _ H15.out.r.2.1).mono ?_; rintro e w16 ⟨rfl, hb⟩; have H16 := hid (H15.out.keep hb); clear hb; clear o0 o1 k0 k1 p0 p1 y0 y1 y2 y3 y4 y5; obtain ⟨o0, o1⟩ := H16.out.r.1.cells; obtain ⟨k0, k1⟩ := H16.out.r.2.2.1.cells; obtain ⟨p0, p1⟩ := H16.out.r.2.2.2.1.cells; obtain ⟨⟨y0, y1⟩, y2, y3, y4, y5⟩ := H16.out.r.2.2.2.2.1.cells)
    | (go_at_call 14; refine (HN2.out _ _ _ H13.out.lv.ld).mono ?_; rintro e w15 ⟨rfl, hb⟩; have H15 := hid (H13.out.keep hb); clear hb; clear o0 o1 k0 k1 p0 p1 y0 y1 y2 y3 y4 y5; obtain ⟨o0, o1⟩ := H15.out.r.1.cells; obtain ⟨k0, k1⟩ := H15.out.r.2.2.1.cells; obtain ⟨p0, p1⟩ := H15.out.r.2.2.2.1.cells; obtain ⟨⟨y0, y1⟩, y2, y3, y4, y5⟩ := H15.out.r.2.2.2.2.1.cells)
    | (have := H19; go_at_call 15; refine (HGt.out _ _ _ H19.out.r.2.2.1).mono ?_; rintro e w20 ⟨rfl, hb⟩; have H20 := hid (H19.out.keep hb); clear hb; clear o0 o1 k0 k1 p0 p1 y0 y1 y2 y3 y4 y5 q0 q1; obtain ⟨o0, o1⟩ := H20.out.r.2.1.cells; obtain ⟨k0, k1⟩ := H20.out.r.2.2.2.1.cells; obtain ⟨p0, p1⟩ := H20.out.r.2.2.2.2.1.cells; obtain ⟨q0, q1⟩ := H20.out.r.1.cells; obtain ⟨⟨y0, y1⟩, y2, y3, y4, y5⟩ := H20.out.r.2.2.2.2.2.1.cells)
    | (go_at_call 15; refine (HG2.out _ _ _ H18.out.lv.ld).mono ?_; rintro e w19 ⟨rfl, hb⟩; have H19 := hid (H18.out.keep hb); clear hb; clear o0 o1 k0 k1 p0 p1 y0 y1 y2 y3 y4 y5 q0 q1; obtain ⟨o0, o1⟩ := H19.out.r.2.1.cells; obtain ⟨k0, k1⟩ := H19.out.r.2.2.2.1.cells; obtain ⟨p0, p1⟩ := H19.out.r.2.2.2.2.1.cells; obtain ⟨q0, q1⟩ := H19.out.r.1.cells; obtain ⟨⟨y0, y1⟩, y2, y3, y4, y5⟩ := H19.out.r.2.2.2.2.2.1.cells)
    | (go_at_call 16; refine (kbits_any V _).mono ?_; rintro e wq ⟨rfl, hw⟩; replace hw := hw.symm; subst hw)
    | (have := H22; go_at_call 18; refine (HNx.out _ _ _ H22.out.1.r.2.2.1).mono ?_; rintro e w23 ⟨a23, c23, rfl, h, hb⟩; have H23 := hid (And.intro (H22.out.1.keep hb) (And.intro (H22.out.2.keep hb (Nat.le_refl _)) h.ints)); clear h hb)
    | (go_at_call 18; refine (HX2.out _ _ _ H21.out.lv.ld).mono ?_; rintro e w22 ⟨a22, c22, rfl, h, hb⟩; have H22 := hid (And.intro (H21.out.keep hb) h.ints); clear h hb)
    | (go_at_call 17; refine (sameInts_any a22 a23 _ c22 c23 X rfl HLn.out _ H23.out.2.1 H23.out.2.2).mono ?_; rintro e w24 ⟨rfl, hb⟩; have H24 := hid (H23.out.1.keep hb); clear hb))
  go_ret
  exact ⟨rfl, H24.out.lv.bel⟩

set_option maxRecDepth 100000 in
set_option maxHeartbeats 12800000 in
theorem ldonce_kept (a : Option Addr) (n cap : Nat) (l : List Int) (hn : l.length = n) (sa : Option Addr) (sc : Nat) (os : List Stp) (hol : os.length ≤ maxLen) (hos : ∀ o, o ∈ os → stB o) (q : Rq) (hq : rightB q = true) (hqb : q.b < 18446744073709551616) (hqk : q.key.size ≤ maxLen) (w : World) (hI : IntsIn w a l) (hr : rightC 0 l = true) (hS : StpsIn w sa os)
    (hF : fullS (playS (newS l) os) = false) (hF2 : fullS (doS (playS (newS l) os) q) = false) (hC : ¬ doC (playS (newS l) os) q = 7) :
    Calls Try.prog 3 #[.agg #[.int .i64 0, .slice a n cap], .slice sa os.length sc, .agg #[.int .i64 q.c, .int .i64 q.st, .int .i64 q.k, .string q.key, .int .u64 (q.b : Int), .int .i64 q.id]] w fun r w' => r = .returned (.bool true) ∧ Below w.heap.size w w' := by
  have H0 := hid (oc_start w 0 (.slice a n cap) q)
  have HPl : Hid (∀ u : World, OcSt w u 0 (.slice a n cap) q → Calls Try.prog 6 #[.agg #[.int .i64 0, .slice a n cap], .slice sa os.length sc] u fun e w' => ∃ g F, e = .returned (.pointer (some ⟨g, 0, none⟩)) ∧ OcSt w w' 0 (.slice a n cap) q ∧ LvSt w w' F (.pointer (some ⟨g, 0, none⟩)) (playS (newS l) os)) := hid (fun u hu =>
    (eplayed_yes a n cap l hn sa sc os hol hos u (hI.keep hu.bel (Nat.le_refl _)) hr (hS.keep hu.bel (Nat.le_refl _))).mono fun e w' ⟨g, F, h1, h2⟩ => ⟨g, F, h1, hu.keep h2.bel, ⟨h2.ld, fun b hb => Nat.le_trans hu.bel.size (h2.new b hb), (hu.keep h2.bel).bel⟩⟩)
  have HRq : Hid (∀ u, Calls Try.prog 8 #[.agg #[.int .i64 q.c, .int .i64 q.st, .int .i64 q.k, .string q.key, .float .f64 q.b, .int .i64 q.id]] u fun e w' => e = .returned (.bool true) ∧ Below u.heap.size u w') := hid (fun u => by have := qright_any q u; rw [hq] at this; exact this)
  have HSm : Hid (∀ (c : Int) (f : Nat) (u : World), Calls Try.prog 13 #[.agg #[.int .i64 c, .float .f64 f], .agg #[.int .i64 c, .float .f64 f]] u fun e w' => e = .returned (.bool true) ∧ Below u.heap.size u w') := hid (fun c f u => by have := qsameResult_any c f c f u; rw [sameS_refl] at this; exact this)
  have hok : LOk (playS (newS l) os) := play_ok (newS_ok hr) os hos
  obtain ⟨g1, g2, g3, g4, g5⟩ := do_again hok hq hF hF2
  have hok1 : LOk (doS (playS (newS l) os) q) := doS_ok hok hqb
  have hN : ((doS (playS (newS l) os) q).dn : Int) ≤ 244 := by have := hok1.hi; have := hok1.ep; omega
  have HDo : Hid (∀ (u : World) (F : List Nat) (v : Value), LdAt F u v (playS (newS l) os) → Calls Try.prog 9 #[v, .agg #[.int .i64 q.c, .int .i64 q.st, .int .i64 q.k, .string q.key, .float .f64 q.b, .int .i64 q.id]] u fun e w' => e = .returned (.tuple #[.agg #[.int .i64 (doC (playS (newS l) os) q), .float .f64 (doF (playS (newS l) os) q)], .int .i64 0]) ∧ LdTo F u w' v (doS (playS (newS l) os) q)) := hid (fun u F v hu => (gdo_any hu q hqb).mono fun e w' ⟨h1, h2⟩ => ⟨by rw [(do_right hq hF).1] at h1; exact h1, h2⟩)
  have HD2 : Hid (∀ (u : World) (F : List Nat) (v : Value), LdAt F u v (doS (playS (newS l) os) q) → Calls Try.prog 9 #[v, .agg #[.int .i64 q.c, .int .i64 q.st, .int .i64 q.k, .string q.key, .float .f64 q.b, .int .i64 q.id]] u fun e w' => e = .returned (.tuple #[.agg #[.int .i64 (doC (playS (newS l) os) q), .float .f64 (doF (playS (newS l) os) q)], .int .i64 0]) ∧ LdTo F u w' v (moreS (doS (playS (newS l) os) q))) := hid (fun u F v hu => (gdo_any hu q hqb).mono fun e w' ⟨h1, h2⟩ => ⟨by rw [g1, g3, g4] at h1; exact h1, by rw [g2] at h2; exact h2⟩)
  have HLa : Hid (∀ (u : World) (F : List Nat) (v : Value), LdAt F u v (doS (playS (newS l) os) q) → Calls Try.prog 11 #[v, .int .i64 q.c] u fun e w' => e = .returned (.tuple #[.int .i64 (((doS (playS (newS l) os) q).at (clN q)).1 : Int), .agg #[.int .i64 ((doS (playS (newS l) os) q).at (clN q)).2.1, .float .f64 ((doS (playS (newS l) os) q).at (clN q)).2.2]]) ∧ Below u.heap.size u w') := hid (fun u F v hu => glastT hu (clN q) (cl_lt hq).1 q.c (by have := (cl_lt hq).2; omega))
  have HL2 : Hid (∀ (u : World) (F : List Nat) (v : Value), LdAt F u v (moreS (doS (playS (newS l) os) q)) → Calls Try.prog 11 #[v, .int .i64 q.c] u fun e w' => e = .returned (.tuple #[.int .i64 (((doS (playS (newS l) os) q).at (clN q)).1 : Int), .agg #[.int .i64 ((doS (playS (newS l) os) q).at (clN q)).2.1, .float .f64 ((doS (playS (newS l) os) q).at (clN q)).2.2]]) ∧ Below u.heap.size u w') := hid (fun u F v hu => glastT hu (clN q) (cl_lt hq).1 q.c (by have := (cl_lt hq).2; omega))
  have HDn : Hid (∀ (u : World) (F : List Nat) (v : Value), LdAt F u v (doS (playS (newS l) os) q) → Calls Try.prog 14 #[v] u fun e w' => e = .returned (.int .i64 ((doS (playS (newS l) os) q).dn : Int)) ∧ Below u.heap.size u w') := hid (fun u F v hu => gdoneT hu)
  have HN2 : Hid (∀ (u : World) (F : List Nat) (v : Value), LdAt F u v (moreS (doS (playS (newS l) os) q)) → Calls Try.prog 14 #[v] u fun e w' => e = .returned (.int .i64 (((doS (playS (newS l) os) q).dn : Int) + 1)) ∧ Below u.heap.size u w') := hid (fun u F v hu => gdoneT hu)
  have HGt : Hid (∀ (u : World) (F : List Nat) (v : Value), LdAt F u v (doS (playS (newS l) os) q) → Calls Try.prog 15 #[v, .string q.key] u fun e w' => e = .returned (.tuple #[.float .f64 (valK q.key (doS (playS (newS l) os) q).its), .bool (getK q.key (doS (playS (newS l) os) q).its).isSome]) ∧ Below u.heap.size u w') := hid (fun u F v hu => ggetT hu q.key hqk)
  have HG2 : Hid (∀ (u : World) (F : List Nat) (v : Value), LdAt F u v (moreS (doS (playS (newS l) os) q)) → Calls Try.prog 15 #[v, .string q.key] u fun e w' => e = .returned (.tuple #[.float .f64 (valK q.key (doS (playS (newS l) os) q).its), .bool (getK q.key (doS (playS (newS l) os) q).its).isSome]) ∧ Below u.heap.size u w') := hid (fun u F v hu => ggetT hu q.key hqk)
  have HNx : Hid (∀ (u : World) (F : List Nat) (v : Value), LdAt F u v (doS (playS (newS l) os) q) → Calls Try.prog 18 #[v] u fun e w' => ∃ a1 c1, e = .returned (.slice a1 (doS (playS (newS l) os) q).nxt.length c1) ∧ NewI u.heap.size w' a1 (doS (playS (newS l) os) q).nxt ∧ Below u.heap.size u w') := hid (fun u F v hu => gnextT (s := (doS (playS (newS l) os) q)) hu)
  have HX2 : Hid (∀ (u : World) (F : List Nat) (v : Value), LdAt F u v (moreS (doS (playS (newS l) os) q)) → Calls Try.prog 18 #[v] u fun e w' => ∃ a1 c1, e = .returned (.slice a1 (doS (playS (newS l) os) q).nxt.length c1) ∧ NewI u.heap.size w' a1 (doS (playS (newS l) os) q).nxt ∧ Below u.heap.size u w') := hid (fun u F v hu => gnextT (s := (moreS (doS (playS (newS l) os) q))) hu)
  have HLn : Hid ((doS (playS (newS l) os) q).nxt.length ≤ maxLen) := hid (by have := mem_len hok1.nx; unfold maxLen; omega)
  have HK := hid hqk
  clear hI hr hn hS hos hol hq hqb hqk
  obtain ⟨t1, t2, t3⟩ := g5.resolve_left hC
  rw [t1, t2, t3] at HLa HL2
  clear t1 t2 t3
  clear hF hF2 hok hok1 g1 g2 g3 g4 g5
  generalize doC (playS (newS l) os) q = C at *
  generalize doF (playS (newS l) os) q = G at *
  generalize valK q.key (doS (playS (newS l) os) q).its = V at *
  generalize (getK q.key (doS (playS (newS l) os) q).its).isSome = B at *
  generalize (doS (playS (newS l) os) q).nxt = X at *
  have hN0 : (0 : Int) ≤ ((doS (playS (newS l) os) q).dn : Int) := Int.natCast_nonneg _
  generalize ((doS (playS (newS l) os) q).dn : Int) = N at *
  generalize (moreS (doS (playS (newS l) os) q)) = S2 at *
  generalize (doS (playS (newS l) os) q) = S1 at *
  generalize (playS (newS l) os) = S0 at *
  go_enter Try.func3, Try.ntmps3
  go_wp2_with (first
    | (go_at_call 5; refine (elives_any _).mono ?_; rintro e w1 ⟨rfl, hb⟩; have H1 := hid (H0.out.keep hb); clear hb; obtain ⟨x0, x1⟩ := H1.out.cf.cells)
    | (go_at_call 6; refine (HPl.out _ H1.out).mono ?_; rintro e w2 ⟨g, F2, rfl, h, h2⟩; have H2 := hid (And.intro h (SgSt.of h2)); clear h h2 x0 x1; obtain ⟨⟨z0, z1⟩, z2, z3, z4, z5⟩ := H2.out.1.ak.cells)
    | (go_at_call 7; refine (drequest_any q _).mono ?_; rintro e w3 ⟨rfl, hb⟩; have H3 := hid (H2.out.2.keep hb); clear hb z0 z1 z2 z3 z4 z5)
    | (have := H3; refine wl_store_rq rfl _ _ rfl w3.heap.size rfl zeroQ q rfl (heap_alloc_last w3 _) ?_; intro w4 Hz; have H4 := hid (H3.out.req Hz.out); clear Hz; obtain ⟨⟨y0, y1⟩, y2, y3, y4, y5⟩ := H4.out.r.1.cells)
    | (go_at_call 8; refine (HRq.out _).mono ?_; rintro e w5 ⟨rfl, hb⟩; have H5 := hid (H4.out.keep hb); clear hb y0 y1 y2 y3 y4 y5; obtain ⟨⟨y0, y1⟩, y2, y3, y4, y5⟩ := H5.out.r.1.cells)
    | (have := H10; go_at_call 9; refine (HD2.out _ _ _ H10.out.lv.ld).mono ?_; rintro e w11 ⟨rfl, h⟩; have H11 := hid (H10.out.to h); clear h y0 y1 y2 y3 y4 y5)
    | (go_at_call 9; refine (HDo.out _ _ _ H5.out.lv.ld).mono ?_; rintro e w6 ⟨rfl, h⟩; have H6 := hid (H5.out.to h); clear h y0 y1 y2 y3 y4 y5)
    | (have := H17; refine wl_store_rs rfl _ _ rfl w17.heap.size rfl 0 C 0 G rfl (heap_alloc_last w17 _) ?_; intro w18 Hz; have H18 := hid (H17.out.res Hz.out); clear Hz; clear o0 o1 k0 k1 p0 p1 y0 y1 y2 y3 y4 y5; obtain ⟨o0, o1⟩ := H18.out.r.2.1.cells; obtain ⟨k0, k1⟩ := H18.out.r.2.2.2.1.cells; obtain ⟨p0, p1⟩ := H18.out.r.2.2.2.2.1.cells; obtain ⟨q0, q1⟩ := H18.out.r.1.cells; obtain ⟨⟨y0, y1⟩, y2, y3, y4, y5⟩ := H18.out.r.2.2.2.2.2.1.cells)
    | (have := H11; refine wl_store_rs rfl _ _ rfl w11.heap.size rfl 0 C 0 G rfl (heap_alloc_last w11 _) ?_; intro w12 Hz; obtain ⟨F11, h11⟩ := H11.out; have H12 := hid (h11.res Hz.out); clear Hz h11 H11; obtain ⟨o0, o1⟩ := H12.out.r.1.cells; obtain ⟨k0, k1⟩ := H12.out.r.2.2.1.cells; obtain ⟨p0, p1⟩ := H12.out.r.2.2.2.1.cells; obtain ⟨⟨y0, y1⟩, y2, y3, y4, y5⟩ := H12.out.r.2.2.2.2.1.cells)
    | (have := H8; refine wl_store_rs rfl _ _ rfl w8.heap.size rfl 0 C 0 G rfl (heap_alloc_last w8 _) ?_; intro w9 Hz; have H9 := hid (H8.out.res Hz.out); clear Hz)
    | (have := H6; refine wl_store_rs rfl _ _ rfl w6.heap.size rfl 0 C 0 G rfl (heap_alloc_last w6 _) ?_; intro w7 Hz; obtain ⟨F6, h6⟩ := H6.out; have H7 := hid (h6.res Hz.out); clear Hz h6 H6; obtain ⟨⟨y0, y1⟩, y2, y3, y4, y5⟩ := H7.out.r.2.1.cells)
    | (have := H16; go_at_call 11; refine (HL2.out _ _ _ H16.out.lv.ld).mono ?_; rintro e w17 ⟨rfl, hb⟩; have H17 := hid (H16.out.keep hb); clear hb; clear o0 o1 k0 k1 p0 p1 y0 y1 y2 y3 y4 y5; obtain ⟨o0, o1⟩ := H17.out.r.1.cells; obtain ⟨k0, k1⟩ := H17.out.r.2.2.1.cells; obtain ⟨p0, p1⟩ := H17.out.r.2.2.2.1.cells; obtain ⟨⟨y0, y1⟩, y2, y3, y4, y5⟩ := H17.out.r.2.2.2.2.1.cells)
    | (go_at_call 11; refine (HLa.out _ _ _ H7.out.lv.ld).mono ?_; rintro e w8 ⟨rfl, hb⟩; have H8 := hid (H7.out.keep hb); clear hb y0 y1 y2 y3 y4 y5)
    | (go_at_call 12; refine (gcopy_any H9.out.lv.ld).mono ?_; rintro e w10 ⟨v10, F10, rfl, h1, h2, h3⟩; have H10 := hid (H9.out.copy h1 h2 h3); clear h1 h2 h3; obtain ⟨⟨y0, y1⟩, y2, y3, y4, y5⟩ := H10.out.r.2.2.2.1.cells)
    | (have := H20; go_at_call 13; refine (HSm.out C G _).mono ?_; rintro e w21 ⟨rfl, hb⟩; have H21 := hid (H20.out.keep hb); clear hb)
    | (have := H13; go_at_call 13; refine (HSm.out C G _).mono ?_; rintro e w14 ⟨rfl, hb⟩; have H14 := hid (H13.out.keep hb); clear hb; clear o0 o1 k0 k1 p0 p1 y0 y1 y2 y3 y4 y5; obtain ⟨o0, o1⟩ := H14.out.r.1.cells; obtain ⟨k0, k1⟩ := H14.out.r.2.2.1.cells; obtain ⟨p0, p1⟩ := H14.out.r.2.2.2.1.cells; obtain ⟨⟨y0, y1⟩, y2, y3, y4, y5⟩ := H14.out.r.2.2.2.2.1.cells)
    | (go_at_call 13; refine (HSm.out C G _).mono ?_; rintro e w13 ⟨rfl, hb⟩; have H13 := hid (H12.out.keep hb); clear hb; clear o0 o1 k0 k1 p0 p1 y0 y1 y2 y3 y4 y5; obtain ⟨o0, o1⟩ := H13.out.r.1.cells; obtain ⟨k0, k1⟩ := H13.out.r.2.2.1.cells; obtain ⟨p0, p1⟩ := H13.out.r.2.2.2.1.cells; obtain ⟨⟨y0, y1⟩, y2, y3, y4, y5⟩ := H13.out.r.2.2.2.2.1.cells)
    | (have := H15; go_at_call 14; refine (HDn.out _ _ _ H15.out.r.2.1).mono ?_; rintro e w16 ⟨rfl, hb⟩; have H16 := hid (H15.out.keep hb); clear hb; clear o0 o1 k0 k1 p0 p1 y0 y1 y2 y3 y4 y5; obtain ⟨o0, o1⟩ := H16.out.r.1.cells; obtain ⟨k0, k1⟩ := H16.out.r.2.2.1.cells; obtain ⟨p0, p1⟩ := H16.out.r.2.2.2.1.cells; obtain ⟨⟨y0, y1⟩, y2, y3, y4, y5⟩ := H16.out.r.2.2.2.2.1.cells)
    | (go_at_call 14; refine (HN2.out _ _ _ H14.out.lv.ld).mono ?_; rintro e w15 ⟨rfl, hb⟩; have H15 := hid (H14.out.keep hb); clear hb; clear o0 o1 k0 k1 p0 p1 y0 y1 y2 y3 y4 y5; obtain ⟨o0, o1⟩ := H15.out.r.1.cells; obtain ⟨k0, k1⟩ := H15.out.r.2.2.1.cells; obtain ⟨p0, p1⟩ := H15.out.r.2.2.2.1.cells; obtain ⟨⟨y0, y1⟩, y2, y3, y4, y5⟩ := H15.out.r.2.2.2.2.1.cells)
    | (have := H19; go_at_call 15; refine (HGt.out _ _ _ H19.out.r.2.2.1).mono ?_; rintro e w20 ⟨rfl, hb⟩; have H20 := hid (H19.out.keep hb); clear hb; clear o0 o1 k0 k1 p0 p1 y0 y1 y2 y3 y4 y5 q0 q1; obtain ⟨o0, o1⟩ := H20.out.r.2.1.cells; obtain ⟨k0, k1⟩ := H20.out.r.2.2.2.1.cells; obtain ⟨p0, p1⟩ := H20.out.r.2.2.2.2.1.cells; obtain ⟨q0, q1⟩ := H20.out.r.1.cells; obtain ⟨⟨y0, y1⟩, y2, y3, y4, y5⟩ := H20.out.r.2.2.2.2.2.1.cells)
    | (go_at_call 15; refine (HG2.out _ _ _ H18.out.lv.ld).mono ?_; rintro e w19 ⟨rfl, hb⟩; have H19 := hid (H18.out.keep hb); clear hb; clear o0 o1 k0 k1 p0 p1 y0 y1 y2 y3 y4 y5 q0 q1; obtain ⟨o0, o1⟩ := H19.out.r.2.1.cells; obtain ⟨k0, k1⟩ := H19.out.r.2.2.2.1.cells; obtain ⟨p0, p1⟩ := H19.out.r.2.2.2.2.1.cells; obtain ⟨q0, q1⟩ := H19.out.r.1.cells; obtain ⟨⟨y0, y1⟩, y2, y3, y4, y5⟩ := H19.out.r.2.2.2.2.2.1.cells)
    | (go_at_call 16; refine (kbits_any V _).mono ?_; rintro e wq ⟨rfl, hw⟩; replace hw := hw.symm; subst hw)
    | (have := H22; go_at_call 18; refine (HNx.out _ _ _ H22.out.1.r.2.2.1).mono ?_; rintro e w23 ⟨a23, c23, rfl, h, hb⟩; have H23 := hid (And.intro (H22.out.1.keep hb) (And.intro (H22.out.2.keep hb (Nat.le_refl _)) h.ints)); clear h hb)
    | (go_at_call 18; refine (HX2.out _ _ _ H21.out.lv.ld).mono ?_; rintro e w22 ⟨a22, c22, rfl, h, hb⟩; have H22 := hid (And.intro (H21.out.keep hb) h.ints); clear h hb)
    | (go_at_call 17; refine (sameInts_any a22 a23 _ c22 c23 X rfl HLn.out _ H23.out.2.1 H23.out.2.2).mono ?_; rintro e w24 ⟨rfl, hb⟩; have H24 := hid (H23.out.1.keep hb); clear hb))
  go_ret
  exact ⟨rfl, H24.out.lv.bel⟩

theorem ldonce_any (ep : Int) (a : Option Addr) (n cap : Nat) (l : List Int) (hn : l.length = n) (hm : n ≤ maxLen) (sa : Option Addr) (sc : Nat) (os : List Stp) (hol : os.length ≤ maxLen) (hos : ∀ o, o ∈ os → stB o) (q : Rq) (hqb : q.b < 18446744073709551616) (hqk : q.key.size ≤ maxLen) (w : World) (hI : IntsIn w a l) (hS : StpsIn w sa os) :
    Calls Try.prog 3 #[.agg #[.int .i64 ep, .slice a n cap], .slice sa os.length sc, .agg #[.int .i64 q.c, .int .i64 q.st, .int .i64 q.k, .string q.key, .int .u64 (q.b : Int), .int .i64 q.id]] w fun r w' => r = .returned (.bool true) ∧ Below w.heap.size w w' := by
  by_cases h : rightC ep l = true ∧ ep = 0
  · obtain ⟨hr, rfl⟩ := h
    cases hq : rightB q with
    | false => exact ldonce_not a n cap l hn sa sc os hol hos q hq w hI hr hS
    | true =>
      cases hF : fullS (playS (newS l) os) with
      | true => exact ldonce_full a n cap l hn sa sc os hol hos q hq hqb hqk w hI hr hS hF
      | false =>
        cases hF2 : fullS (doS (playS (newS l) os) q) with
        | true => exact ldonce_then a n cap l hn sa sc os hol hos q hq hqb hqk w hI hr hS hF hF2
        | false =>
          by_cases hC : doC (playS (newS l) os) q = 7
          · exact ldonce_old a n cap l hn sa sc os hol hos q hq hqb hqk w hI hr hS hF hF2 hC
          · exact ldonce_kept a n cap l hn sa sc os hol hos q hq hqb hqk w hI hr hS hF hF2 hC
  · refine ldonce_no ep a n cap l hn hm sa _ sc q w hI ?_
    cases hr : rightC ep l with
    | false => exact .inl rfl
    | true => exact .inr (fun e => h ⟨hr, e⟩)
end Go.Proofs.Ytpeagpeifmimlaa
