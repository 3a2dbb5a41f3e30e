/- The program's ledger: Do, Turn. -/
import Derived.Test.YtpeagpeifmimlabMx5
namespace Go.Proofs.Ytpeagpeifmimlab
open Go.RowKit

theorem LnTo.to {w w' : World} {g m : Nat} {am an : Option Addr} {cm : Nat} {s : Ls} (h : LnTo w w' g m am an cm s) : LdTo (fpL g m am an) w w' (.pointer (some ⟨g, 0, none⟩)) s := by
  obtain ⟨an', cn', h1, h2, h3⟩ := h
  exact ⟨_, h1.at, fp_next h3, h2⟩
theorem LdA.done {w : World} {g m : Nat} {am an : Option Addr} {cm cn : Nat} {s : Ls} (h : LdA w g m am an cm cn s) (hf : fullS s = false) : LdA (w.setCell ⟨g, 3, none⟩ (.int .i64 ((s.dn : Int) + 1))) g m am an cm cn (moreS s) :=
  h.setg (one_cell _ g 3 _) ((blk_set h.blk 3 _).trans (by simp [ldC, moreS])) h.im h.ix h.ma h.na rfl (more_ok h.ok hf)
set_option maxRecDepth 100000 in
set_option maxHeartbeats 6400000 in
theorem gdo_no {w : World} {g m : Nat} {am an : Option Addr} {cm cn : Nat} {s : Ls} (h : LdA w g m am an cm cn s) (r : Rq) (hR : rightB r = false) (hN : nullB r = false) :
    Calls Try.prog 5 #[.pointer (some ⟨g, 0, none⟩), .agg #[.int .i64 r.c, .int .i64 r.st, .int .i64 r.k, .string r.key, .float .f64 r.b, .int .i64 r.id]] w fun e w' => e = .returned (.tuple #[.agg #[.int .i64 (0), .float .f64 (0)], .int .i64 1]) ∧ LnTo w w' g m am an cm (s) := by
  have H0 := hid (lq_new h r)
  have HR : Hid (∀ u : World, Calls Try.prog 20 #[.agg #[.int .i64 r.c, .int .i64 r.st, .int .i64 r.k, .string r.key, .float .f64 r.b, .int .i64 r.id]] u fun e w' => e = .returned (.bool false) ∧ Below u.heap.size u w') := hid (fun u => by rw [← hR]; exact dright_any r u)
  have HN : Hid (∀ u : World, Calls Try.prog 21 #[.agg #[.int .i64 r.c, .int .i64 r.st, .int .i64 r.k, .string r.key, .float .f64 r.b, .int .i64 r.id]] u fun e w' => e = .returned (.bool false) ∧ Below u.heap.size u w') := hid (fun u => by rw [← hN]; exact dnull_any r u)
  obtain ⟨⟨d0, d1⟩, d2, d3, d4, d5⟩ := H0.out.rq.cells
  clear h hR hN
  go_enter Try.func5, Try.ntmps5
  go_wp2_with (first
    | (have := H3; refine wl_store_rs rfl _ _ rfl (w.heap.size + 1) rfl 0 (0) 0 (0) rfl H3.out.lr.rs ?_; intro w4 Hq; have H4 := hid (H3.out.res Hq.out.1 Hq.out.2); clear Hq)
    | (go_at_call 21; have := H2; refine (HN.out _).mono ?_; rintro e w3 ⟨rfl, hbb⟩; have H3 := hid (H2.out.keep hbb); clear hbb; clear d0 d1 d2 d3 d4 d5; obtain ⟨⟨d0, d1⟩, d2, d3, d4, d5⟩ := H3.out.rq.cells)
    | (go_at_call 20; have := T0; refine (HR.out _).mono ?_; rintro e w2 ⟨rfl, hbb⟩; have H2 := hid (H0.out.keep hbb); clear hbb; clear d0 d1 d2 d3 d4 d5; obtain ⟨⟨d0, d1⟩, d2, d3, d4, d5⟩ := H2.out.rq.cells)
    | (go_at_call 19; refine (gisNone_any H0.out.lr.ld).mono ?_; rintro e w1 ⟨rfl, rfl⟩; have T0 := hid True.intro))
  refine ret_pair (s := 4) (s2 := 5) (ad := ⟨w.heap.size + 1, 0, none⟩) rfl rfl (load_rs _ _ (0) (0) H4.out.lr.rs) rfl rfl ?_
  exact ⟨rfl, LnTo.of H4.out.lr.ld H4.out.lr.out⟩
set_option maxRecDepth 100000 in
set_option maxHeartbeats 6400000 in
theorem gdo_rfull {w : World} {g m : Nat} {am an : Option Addr} {cm cn : Nat} {s : Ls} (h : LdA w g m am an cm cn s) (r : Rq) (hR : rightB r = true) (hN : nullB r = false) (hF : fullS s = true) :
    Calls Try.prog 5 #[.pointer (some ⟨g, 0, none⟩), .agg #[.int .i64 r.c, .int .i64 r.st, .int .i64 r.k, .string r.key, .float .f64 r.b, .int .i64 r.id]] w fun e w' => e = .returned (.tuple #[.agg #[.int .i64 (0), .float .f64 (0)], .int .i64 18]) ∧ LnTo w w' g m am an cm (s) := by
  have H0 := hid (lq_new h r)
  have HR : Hid (∀ u : World, Calls Try.prog 20 #[.agg #[.int .i64 r.c, .int .i64 r.st, .int .i64 r.k, .string r.key, .float .f64 r.b, .int .i64 r.id]] u fun e w' => e = .returned (.bool true) ∧ Below u.heap.size u w') := hid (fun u => by rw [← hR]; exact dright_any r u)
  have HN : Hid (∀ u : World, Calls Try.prog 21 #[.agg #[.int .i64 r.c, .int .i64 r.st, .int .i64 r.k, .string r.key, .float .f64 r.b, .int .i64 r.id]] u fun e w' => e = .returned (.bool false) ∧ Below u.heap.size u w') := hid (fun u => by rw [← hN]; exact dnull_any r u)
  have HF : Hid (∀ u : World, LdA u g m am an cm cn s → Calls Try.prog 15 #[.pointer (some ⟨g, 0, none⟩)] u fun e w' => e = .returned (.bool true) ∧ Below u.heap.size u w') := hid (fun u hu => by rw [← hF]; exact gfull_any hu)
  obtain ⟨⟨d0, d1⟩, d2, d3, d4, d5⟩ := H0.out.rq.cells
  clear h hR hN hF
  go_enter Try.func5, Try.ntmps5
  go_wp2_with (first
    | (have := H3; refine wl_store_rs rfl _ _ rfl (w.heap.size + 1) rfl 0 (0) 0 (0) rfl H3.out.lr.rs ?_; intro w4 Hq; have H4 := hid (H3.out.res Hq.out.1 Hq.out.2); clear Hq)
    | (go_at_call 15; have := H2; refine (HF.out _ H2.out.lr.ld).mono ?_; rintro e w3 ⟨rfl, hbb⟩; have H3 := hid (H2.out.keep hbb); clear hbb; clear d0 d1 d2 d3 d4 d5; obtain ⟨⟨d0, d1⟩, d2, d3, d4, d5⟩ := H3.out.rq.cells; have c3 := H3.out.lr.ld.c3; have f3 := H3.out.lr.ld.fr 3)
    | (go_at_call 20; have := T0; refine (HR.out _).mono ?_; rintro e w2 ⟨rfl, hbb⟩; have H2 := hid (H0.out.keep hbb); clear hbb; clear d0 d1 d2 d3 d4 d5; obtain ⟨⟨d0, d1⟩, d2, d3, d4, d5⟩ := H2.out.rq.cells)
    | (go_at_call 19; refine (gisNone_any H0.out.lr.ld).mono ?_; rintro e w1 ⟨rfl, rfl⟩; have T0 := hid True.intro))
  refine ret_pair (s := 4) (s2 := 5) (ad := ⟨w.heap.size + 1, 0, none⟩) rfl rfl (load_rs _ _ (0) (0) H4.out.lr.rs) rfl rfl ?_
  exact ⟨rfl, LnTo.of H4.out.lr.ld H4.out.lr.out⟩
set_option maxRecDepth 100000 in
set_option maxHeartbeats 6400000 in
theorem gdo_nfull {w : World} {g m : Nat} {am an : Option Addr} {cm cn : Nat} {s : Ls} (h : LdA w g m am an cm cn s) (r : Rq) (hR : rightB r = false) (hN : nullB r = true) (hF : fullS s = true) :
    Calls Try.prog 5 #[.pointer (some ⟨g, 0, none⟩), .agg #[.int .i64 r.c, .int .i64 r.st, .int .i64 r.k, .string r.key, .float .f64 r.b, .int .i64 r.id]] w fun e w' => e = .returned (.tuple #[.agg #[.int .i64 (0), .float .f64 (0)], .int .i64 18]) ∧ LnTo w w' g m am an cm (s) := by
  have H0 := hid (lq_new h r)
  have HR : Hid (∀ u : World, Calls Try.prog 20 #[.agg #[.int .i64 r.c, .int .i64 r.st, .int .i64 r.k, .string r.key, .float .f64 r.b, .int .i64 r.id]] u fun e w' => e = .returned (.bool false) ∧ Below u.heap.size u w') := hid (fun u => by rw [← hR]; exact dright_any r u)
  have HN : Hid (∀ u : World, Calls Try.prog 21 #[.agg #[.int .i64 r.c, .int .i64 r.st, .int .i64 r.k, .string r.key, .float .f64 r.b, .int .i64 r.id]] u fun e w' => e = .returned (.bool true) ∧ Below u.heap.size u w') := hid (fun u => by rw [← hN]; exact dnull_any r u)
  have HF : Hid (∀ u : World, LdA u g m am an cm cn s → Calls Try.prog 15 #[.pointer (some ⟨g, 0, none⟩)] u fun e w' => e = .returned (.bool true) ∧ Below u.heap.size u w') := hid (fun u hu => by rw [← hF]; exact gfull_any hu)
  obtain ⟨⟨d0, d1⟩, d2, d3, d4, d5⟩ := H0.out.rq.cells
  clear h hR hN hF
  go_enter Try.func5, Try.ntmps5
  go_wp2_with (first
    | (have := H4; refine wl_store_rs rfl _ _ rfl (w.heap.size + 1) rfl 0 (0) 0 (0) rfl H4.out.lr.rs ?_; intro w5 Hq; have H5 := hid (H4.out.res Hq.out.1 Hq.out.2); clear Hq)
    | (go_at_call 15; have := H3; refine (HF.out _ H3.out.lr.ld).mono ?_; rintro e w4 ⟨rfl, hbb⟩; have H4 := hid (H3.out.keep hbb); clear hbb; clear d0 d1 d2 d3 d4 d5; obtain ⟨⟨d0, d1⟩, d2, d3, d4, d5⟩ := H4.out.rq.cells; have c3 := H4.out.lr.ld.c3; have f3 := H4.out.lr.ld.fr 3)
    | (go_at_call 21; have := H2; refine (HN.out _).mono ?_; rintro e w3 ⟨rfl, hbb⟩; have H3 := hid (H2.out.keep hbb); clear hbb; clear d0 d1 d2 d3 d4 d5; obtain ⟨⟨d0, d1⟩, d2, d3, d4, d5⟩ := H3.out.rq.cells)
    | (go_at_call 20; have := T0; refine (HR.out _).mono ?_; rintro e w2 ⟨rfl, hbb⟩; have H2 := hid (H0.out.keep hbb); clear hbb; clear d0 d1 d2 d3 d4 d5; obtain ⟨⟨d0, d1⟩, d2, d3, d4, d5⟩ := H2.out.rq.cells)
    | (go_at_call 19; refine (gisNone_any H0.out.lr.ld).mono ?_; rintro e w1 ⟨rfl, rfl⟩; have T0 := hid True.intro))
  refine ret_pair (s := 4) (s2 := 5) (ad := ⟨w.heap.size + 1, 0, none⟩) rfl rfl (load_rs _ _ (0) (0) H5.out.lr.rs) rfl rfl ?_
  exact ⟨rfl, LnTo.of H5.out.lr.ld H5.out.lr.out⟩
set_option maxRecDepth 100000 in
set_option maxHeartbeats 6400000 in
theorem gdo_null {w : World} {g m : Nat} {am an : Option Addr} {cm cn : Nat} {s : Ls} (h : LdA w g m am an cm cn s) (r : Rq) (hR : rightB r = false) (hN : nullB r = true) (hF : fullS s = false) :
    Calls Try.prog 5 #[.pointer (some ⟨g, 0, none⟩), .agg #[.int .i64 r.c, .int .i64 r.st, .int .i64 r.k, .string r.key, .float .f64 r.b, .int .i64 r.id]] w fun e w' => e = .returned (.tuple #[.agg #[.int .i64 (8), .float .f64 (0)], .int .i64 0]) ∧ LnTo w w' g m am an cm (moreS s) := by
  have H0 := hid (lq_new h r)
  have HR : Hid (∀ u : World, Calls Try.prog 20 #[.agg #[.int .i64 r.c, .int .i64 r.st, .int .i64 r.k, .string r.key, .float .f64 r.b, .int .i64 r.id]] u fun e w' => e = .returned (.bool false) ∧ Below u.heap.size u w') := hid (fun u => by rw [← hR]; exact dright_any r u)
  have HN : Hid (∀ u : World, Calls Try.prog 21 #[.agg #[.int .i64 r.c, .int .i64 r.st, .int .i64 r.k, .string r.key, .float .f64 r.b, .int .i64 r.id]] u fun e w' => e = .returned (.bool true) ∧ Below u.heap.size u w') := hid (fun u => by rw [← hN]; exact dnull_any r u)
  have HF : Hid (∀ u : World, LdA u g m am an cm cn s → Calls Try.prog 15 #[.pointer (some ⟨g, 0, none⟩)] u fun e w' => e = .returned (.bool false) ∧ Below u.heap.size u w') := hid (fun u hu => by rw [← hF]; exact gfull_any hu)
  have HFF := hid hF
  have hw1 : IntKind.i64.wrap ((s.dn : Int) + 1) = (s.dn : Int) + 1 := by have h1 := h.ok.hi; have h2 := h.ok.ep; simp [IntKind.wrap, IntKind.bits, IntKind.signed]; omega
  obtain ⟨⟨d0, d1⟩, d2, d3, d4, d5⟩ := H0.out.rq.cells
  clear h hR hN hF
  go_enter Try.func5, Try.ntmps5
  go_wp2_with (first
    | (have := H5; refine wl_store_rs rfl _ _ rfl (w.heap.size + 1) rfl 0 (8) 0 (0) rfl H5.out.lr.rs ?_; intro w6 Hq; have H6 := hid (H5.out.res Hq.out.1 Hq.out.2); clear Hq)
    | (go_at_call 21; have := H5x; refine (HN.out _).mono ?_; rintro e w5 ⟨rfl, hbb⟩; have H5 := hid (H5x.out.keep hbb); clear hbb H5x c3 f3 x0 x1 x2 x3 x4 x5; clear d0 d1 d2 d3 d4 d5; obtain ⟨⟨d0, d1⟩, d2, d3, d4, d5⟩ := H5.out.rq.cells)
    | (go_at_call 15; have := H3; refine (HF.out _ H3.out.lr.ld).mono ?_; rintro e w4 ⟨rfl, hbb⟩; have H4 := hid (H3.out.keep hbb); clear hbb; clear d0 d1 d2 d3 d4 d5; obtain ⟨⟨d0, d1⟩, d2, d3, d4, d5⟩ := H4.out.rq.cells; have c3 := H4.out.lr.ld.c3; have f3 := H4.out.lr.ld.fr 3; have H5x := hid (H4.out.own (H4.out.lr.ld.done HFF.out) (one_cell _ g 3 _) fp_gm.1); obtain ⟨⟨x0, x1⟩, x2, x3, x4, x5⟩ := H5x.out.rq.cells)
    | (go_at_call 21; have := H2; refine (HN.out _).mono ?_; rintro e w3 ⟨rfl, hbb⟩; have H3 := hid (H2.out.keep hbb); clear hbb; clear d0 d1 d2 d3 d4 d5; obtain ⟨⟨d0, d1⟩, d2, d3, d4, d5⟩ := H3.out.rq.cells)
    | (go_at_call 20; have := T0; refine (HR.out _).mono ?_; rintro e w2 ⟨rfl, hbb⟩; have H2 := hid (H0.out.keep hbb); clear hbb; clear d0 d1 d2 d3 d4 d5; obtain ⟨⟨d0, d1⟩, d2, d3, d4, d5⟩ := H2.out.rq.cells)
    | (go_at_call 19; refine (gisNone_any H0.out.lr.ld).mono ?_; rintro e w1 ⟨rfl, rfl⟩; have T0 := hid True.intro))
  refine ret_pair (s := 4) (s2 := 5) (ad := ⟨w.heap.size + 1, 0, none⟩) rfl rfl (load_rs _ _ (8) (0) H6.out.lr.rs) rfl rfl ?_
  exact ⟨rfl, LnTo.of H6.out.lr.ld H6.out.lr.out⟩
set_option maxRecDepth 100000 in
set_option maxHeartbeats 6400000 in
theorem gdo_right {w : World} {g m : Nat} {am an : Option Addr} {cm cn : Nat} {s : Ls} (h : LdA w g m am an cm cn s) (r : Rq) (hb : r.b < 18446744073709551616) (hR : rightB r = true) (hN : nullB r = false) (hF : fullS s = false) :
    Calls Try.prog 5 #[.pointer (some ⟨g, 0, none⟩), .agg #[.int .i64 r.c, .int .i64 r.st, .int .i64 r.k, .string r.key, .float .f64 r.b, .int .i64 r.id]] w fun e w' => e = .returned (.tuple #[.agg #[.int .i64 (ansC s r), .float .f64 (ansF s r)], .int .i64 0]) ∧ LnTo w w' g m am an cm (ansS (moreS s) r) := by
  have H0 := hid (lq_new h r)
  have HR : Hid (∀ u : World, Calls Try.prog 20 #[.agg #[.int .i64 r.c, .int .i64 r.st, .int .i64 r.k, .string r.key, .float .f64 r.b, .int .i64 r.id]] u fun e w' => e = .returned (.bool true) ∧ Below u.heap.size u w') := hid (fun u => by rw [← hR]; exact dright_any r u)
  have HN : Hid (∀ u : World, Calls Try.prog 21 #[.agg #[.int .i64 r.c, .int .i64 r.st, .int .i64 r.k, .string r.key, .float .f64 r.b, .int .i64 r.id]] u fun e w' => e = .returned (.bool false) ∧ Below u.heap.size u w') := hid (fun u => by rw [← hN]; exact dnull_any r u)
  have HF : Hid (∀ u : World, LdA u g m am an cm cn s → Calls Try.prog 15 #[.pointer (some ⟨g, 0, none⟩)] u fun e w' => e = .returned (.bool false) ∧ Below u.heap.size u w') := hid (fun u hu => by rw [← hF]; exact gfull_any hu)
  have HFF := hid hF
  have hw1 : IntKind.i64.wrap ((s.dn : Int) + 1) = (s.dn : Int) + 1 := by have h1 := h.ok.hi; have h2 := h.ok.ep; simp [IntKind.wrap, IntKind.bits, IntKind.signed]; omega
  have HA : Hid (∀ u : World, LdA u g m am an cm cn (moreS s) → Calls Try.prog 22 #[.pointer (some ⟨g, 0, none⟩), .agg #[.int .i64 r.c, .int .i64 r.st, .int .i64 r.k, .string r.key, .float .f64 r.b, .int .i64 r.id]] u fun e w' => e = .returned (.agg #[.int .i64 (ansC s r), .float .f64 (ansF s r)]) ∧ LnTo u w' g m am an cm (ansS (moreS s) r)) := hid (fun u hu => ganswer_any hu r hR hb)
  generalize ansC s r = C at HA ⊢
  generalize ansF s r = D at HA ⊢
  generalize ansS (moreS s) r = S' at HA ⊢
  obtain ⟨⟨d0, d1⟩, d2, d3, d4, d5⟩ := H0.out.rq.cells
  clear h hR hN hb hF
  go_enter Try.func5, Try.ntmps5
  go_wp2_with (first
    | (have := H5; refine wl_store_rs rfl _ _ rfl (w.heap.size + 1) rfl 0 (C) 0 (D) rfl H5.out.lr.rs ?_; intro w6 Hq; have H6 := hid (H5.out.res Hq.out.1 Hq.out.2); clear Hq)
    | (go_at_call 22; have := H4; refine (HA.out _ H4.out.lr.ld).mono ?_; rintro e w5 ⟨rfl, an1, cn1, hL, hO, hX⟩; have H5 := hid (H4.out.viaN hL hO (fun b hb => .inl hb) hX); have HX := hid hX; clear hL hO hX; clear d0 d1 d2 d3 d4 d5)
    | (go_at_call 21; have := H4x; refine (HN.out _).mono ?_; rintro e w4 ⟨rfl, hbb⟩; have H4 := hid (H4x.out.keep hbb); clear hbb H4x c3 f3 x0 x1 x2 x3 x4 x5; clear d0 d1 d2 d3 d4 d5; obtain ⟨⟨d0, d1⟩, d2, d3, d4, d5⟩ := H4.out.rq.cells)
    | (go_at_call 15; have := H2; refine (HF.out _ H2.out.lr.ld).mono ?_; rintro e w3 ⟨rfl, hbb⟩; have H3 := hid (H2.out.keep hbb); clear hbb; clear d0 d1 d2 d3 d4 d5; obtain ⟨⟨d0, d1⟩, d2, d3, d4, d5⟩ := H3.out.rq.cells; have c3 := H3.out.lr.ld.c3; have f3 := H3.out.lr.ld.fr 3; have H4x := hid (H3.out.own (H3.out.lr.ld.done HFF.out) (one_cell _ g 3 _) fp_gm.1); obtain ⟨⟨x0, x1⟩, x2, x3, x4, x5⟩ := H4x.out.rq.cells)
    | (go_at_call 20; have := T0; refine (HR.out _).mono ?_; rintro e w2 ⟨rfl, hbb⟩; have H2 := hid (H0.out.keep hbb); clear hbb; clear d0 d1 d2 d3 d4 d5; obtain ⟨⟨d0, d1⟩, d2, d3, d4, d5⟩ := H2.out.rq.cells)
    | (go_at_call 19; refine (gisNone_any H0.out.lr.ld).mono ?_; rintro e w1 ⟨rfl, rfl⟩; have T0 := hid True.intro))
  refine ret_pair (s := 4) (s2 := 5) (ad := ⟨w.heap.size + 1, 0, none⟩) rfl rfl (load_rs _ _ (C) (D) H6.out.lr.rs) rfl rfl ?_
  exact ⟨rfl, LnTo.low H4.out.lr.out.size ⟨an1, cn1, H6.out.lr.ld, H6.out.lr.out, HX.out⟩⟩
theorem gdo_any {F : List Nat} {w : World} {v : Value} {s : Ls} (h : LdAt F w v s) (r : Rq) (hb : r.b < 18446744073709551616) :
    Calls Try.prog 5 #[v, .agg #[.int .i64 r.c, .int .i64 r.st, .int .i64 r.k, .string r.key, .float .f64 r.b, .int .i64 r.id]] w fun e w' => e = .returned (.tuple #[.agg #[.int .i64 (doC s r), .float .f64 (doF s r)], .int .i64 (doE s r)]) ∧ LdTo F w w' v (doS s r) := by
  obtain ⟨g, m, am, an, cm, cn, rfl, rfl, h⟩ := h
  cases hR : rightB r with
  | true =>
    have hN := right_null hR
    have hf : fitR r = true := by rw [fitR, hR, hN]; rfl
    cases hF : fullS s with
    | true =>
      have hE : doE s r = 18 := by rw [doE, hf, hF]; rfl
      rw [doC, doF, doS, hE]
      exact (gdo_rfull h r hR hN hF).mono fun _ _ ⟨he, ht⟩ => ⟨he, ht.to⟩
    | false =>
      have hE : doE s r = 0 := by rw [doE, hf, hF]; rfl
      rw [doC, doF, doS, hE, hN]
      exact (gdo_right h r hb hR hN hF).mono fun _ _ ⟨he, ht⟩ => ⟨he, ht.to⟩
  | false =>
    cases hN : nullB r with
    | true =>
      have hf : fitR r = true := by rw [fitR, hN]; rfl
      cases hF : fullS s with
      | true =>
        have hE : doE s r = 18 := by rw [doE, hf, hF]; rfl
        rw [doC, doF, doS, hE]
        exact (gdo_nfull h r hR hN hF).mono fun _ _ ⟨he, ht⟩ => ⟨he, ht.to⟩
      | false =>
        have hE : doE s r = 0 := by rw [doE, hf, hF]; rfl
        rw [doC, doF, doS, hE, hN]
        exact (gdo_null h r hR hN hF).mono fun _ _ ⟨he, ht⟩ => ⟨he, ht.to⟩
    | false =>
      have hE : doE s r = 1 := by rw [doE, fitR, hN, hR]; rfl
      rw [doC, doF, doS, hE]
      exact (gdo_no h r hR hN).mono fun _ _ ⟨he, ht⟩ => ⟨he, ht.to⟩
set_option maxRecDepth 100000 in
set_option maxHeartbeats 3200000 in
theorem gdo_nil (r : Rq) (w : World) : Calls Try.prog 5 #[.pointer none, .agg #[.int .i64 r.c, .int .i64 r.st, .int .i64 r.k, .string r.key, .float .f64 r.b, .int .i64 r.id]] w fun e w' => e = .returned (.tuple #[.agg #[.int .i64 0, .float .f64 0], .int .i64 1]) ∧ Below w.heap.size w w' := by
  have h1 := (Below.refl w.heap.size w).alloc (Nat.le_refl _) (.cells #[.int .i64 r.c, .int .i64 r.st, .int .i64 r.k, .string r.key, .float .f64 r.b, .int .i64 r.id] 36)
  have H0 : Hid (RsAt ((w.alloc (.cells #[.int .i64 r.c, .int .i64 r.st, .int .i64 r.k, .string r.key, .float .f64 r.b, .int .i64 r.id] 36)).alloc (.cells #[.int .i64 0, .float .f64 0] 29)) (w.heap.size + 1) 0 0 ∧ Below w.heap.size w ((w.alloc (.cells #[.int .i64 r.c, .int .i64 r.st, .int .i64 r.k, .string r.key, .float .f64 r.b, .int .i64 r.id] 36)).alloc (.cells #[.int .i64 0, .float .f64 0] 29))) := hid ⟨snd_alloc w _ _, h1.alloc (by simp) (.cells #[.int .i64 0, .float .f64 0] 29)⟩
  clear h1
  go_enter Try.func5, Try.ntmps5
  go_wp2_with (first
    | (refine wl_store_rs rfl _ _ rfl (w.heap.size + 1) rfl 0 0 0 0 rfl H0.out.1 ?_; intro w2 Hq; have H2 : Hid (RsAt w2 (w.heap.size + 1) 0 0 ∧ Below w.heap.size w w2) := hid ⟨Hq.out.1, Hq.out.2.below H0.out.2 (Nat.le_succ _)⟩; clear Hq)
    | (go_at_call 19; refine (gisNone_nil _).mono ?_; rintro e w1 ⟨rfl, rfl⟩))
  refine ret_pair (s := 4) (s2 := 5) (ad := ⟨w.heap.size + 1, 0, none⟩) rfl rfl (load_rs _ _ 0 0 H2.out.1) rfl rfl ?_
  exact ⟨rfl, H2.out.2⟩
set_option maxRecDepth 100000 in
theorem gturn_nil (w : World) : Calls Try.prog 10 #[.pointer none] w fun e w' => e = .returned (.int .i64 1) ∧ w' = w := by
  go_enter Try.func10, Try.ntmps10
  go_wp2_with (go_at_call 19; refine (gisNone_nil _).mono ?_; rintro e w1 ⟨rfl, rfl⟩)
  go_ret
  exact ⟨rfl, rfl⟩
set_option maxRecDepth 100000 in
set_option maxHeartbeats 3200000 in
theorem gturn_not {w : World} {g m : Nat} {am an : Option Addr} {cm cn : Nat} {s : Ls} (h : LdA w g m am an cm cn s) (hF : fullS s = false) :
    Calls Try.prog 10 #[.pointer (some ⟨g, 0, none⟩)] w fun e w' => e = .returned (.int .i64 18) ∧ LdA w' g m am an cm cn s ∧ Out (fpL g m am an) w w' := by
  have H := hid h
  have HF : Hid (∀ u : World, LdA u g m am an cm cn s → Calls Try.prog 15 #[.pointer (some ⟨g, 0, none⟩)] u fun e w' => e = .returned (.bool false) ∧ Below u.heap.size u w') := hid (fun u hu => by rw [← hF]; exact gfull_any hu)
  clear h hF
  go_enter Try.func10, Try.ntmps10
  go_wp2_with (first
    | (go_at_call 15; refine (HF.out _ H.out).mono ?_; rintro e w2 ⟨rfl, hbb⟩; have H2 := hid (And.intro (H.out.keep hbb) (Out.of_below (F := fpL g m am an) hbb)); clear hbb)
    | (go_at_call 19; refine (gisNone_any H.out).mono ?_; rintro e w1 ⟨rfl, rfl⟩))
  go_ret
  exact ⟨rfl, H2.out⟩
set_option maxRecDepth 100000 in
set_option maxHeartbeats 3200000 in
theorem gturn_last {w : World} {g m : Nat} {am an : Option Addr} {cm cn : Nat} {s : Ls} (h : LdA w g m am an cm cn s) (hF : fullS s = true) (he : s.ep = 60) :
    Calls Try.prog 10 #[.pointer (some ⟨g, 0, none⟩)] w fun e w' => e = .returned (.int .i64 3) ∧ LdA w' g m am an cm cn s ∧ Out (fpL g m am an) w w' := by
  have H := hid h
  have HF : Hid (∀ u : World, LdA u g m am an cm cn s → Calls Try.prog 15 #[.pointer (some ⟨g, 0, none⟩)] u fun e w' => e = .returned (.bool true) ∧ Below u.heap.size u w') := hid (fun u hu => by rw [← hF]; exact gfull_any hu)
  have HE : Hid (some (Value.int .i64 (s.ep : Int)) = some (.int .i64 60)) := hid (by rw [he]; rfl)
  clear h hF he
  go_enter Try.func10, Try.ntmps10
  go_wp2_with (first
    | (go_at_call 15; refine (HF.out _ H.out).mono ?_; rintro e w2 ⟨rfl, hbb⟩; have H2 := hid (And.intro (H.out.keep hbb) (Out.of_below (F := fpL g m am an) hbb)); clear hbb; have c0 := H2.out.1.c0.trans HE.out)
    | (go_at_call 19; refine (gisNone_any H.out).mono ?_; rintro e w1 ⟨rfl, rfl⟩))
  go_ret
  exact ⟨rfl, H2.out⟩
/-- While a turn is made. -/
structure TuSt (F : List Nat) (w0 w : World) (g m : Nat) (am an : Option Addr) (cm cn : Nat) (s : Ls) : Prop where
  ld : LdA w g m am an cm cn s
  out : Out F w0 w
theorem TuSt.keep {F : List Nat} {w0 w w' : World} {g m : Nat} {am an : Option Addr} {cm cn : Nat} {s : Ls} (h : TuSt F w0 w g m am an cm cn s) (hb : Below w.heap.size w w') : TuSt F w0 w' g m am an cm cn s := ⟨h.ld.keep hb, h.out.more hb⟩
set_option maxRecDepth 100000 in
set_option maxHeartbeats 6400000 in
theorem gturn_yes {w : World} {g m : Nat} {am an : Option Addr} {cm cn : Nat} {s : Ls} (h : LdA w g m am an cm cn s) (hF : fullS s = true) (he : s.ep ≠ 60) :
    Calls Try.prog 10 #[.pointer (some ⟨g, 0, none⟩)] w fun e w' => e = .returned (.int .i64 0) ∧ ∃ a1 c1, LdA w' g m a1 an c1 cn { s with ep := s.ep + 1, mem := s.nxt } ∧ Out (fpL g m am an) w w' ∧ ∀ x, a1 = some x → w.heap.size ≤ x.block := by
  have H := hid h
  have HF : Hid (∀ u : World, LdA u g m am an cm cn s → Calls Try.prog 15 #[.pointer (some ⟨g, 0, none⟩)] u fun e w' => e = .returned (.bool true) ∧ Below u.heap.size u w') := hid (fun u hu => by rw [← hF]; exact gfull_any hu)
  have hn : ¬ ((s.ep : Int) = 60) := by omega
  have hw1 : IntKind.i64.wrap ((s.ep : Int) + 1) = (s.ep : Int) + 1 := by have h2 := h.ok.ep; simp [IntKind.wrap, IntKind.bits, IntKind.signed]; omega
  have HK : Hid (LOk { s with ep := s.ep + 1, mem := s.nxt } ∧ s.nxt.length * 8 ≤ 140737488355328) := hid ⟨by
    have := turnS_ok h.ok
    have hE : turnE s = 0 := by rw [turnE, hF, if_neg (by simp), if_neg he]
    rw [turnS, if_pos hE] at this
    exact this, by have := h.pos; omega⟩
  clear h hF he
  go_enter Try.func10, Try.ntmps10
  go_wp2_with (first
    | (go_at_call 15; refine (HF.out _ H.out).mono ?_; rintro e w2 ⟨rfl, hbb⟩; have H2 : Hid (TuSt (fpL g m am an) w w2 g m am an cm cn s) := hid ⟨H.out.keep hbb, Out.of_below hbb⟩; clear hbb; have c0 := H2.out.ld.c0)
    | (go_at_call 19; refine (gisNone_any H.out).mono ?_; rintro e w1 ⟨rfl, hw⟩; replace hw := hw.symm; subst hw))
  clear c0 hn
  have H3 := hid (H2.out.keep (Below.refl _ _).drew)
  have HS : Hid (w2.drew.cell? ⟨g, 2, none⟩ = some (.slice an s.nxt.length cn)) := hid H3.out.ld.c2
  refine wp_region_held (S := fun ww => ww.cell? ⟨g, 2, none⟩ = some (.slice an s.nxt.length cn)) (by kernel_rfl) ?_
  try (change wpAnyH _ _ _ _ _ _ _ _ (World.drew _))
  refine wpAnyH_take (i := 0) (v := ?v1) rfl (by kernel_rfl) (by kernel_rfl) (by kernel_rfl) (fun _ _ _ h => h) (Or.inl ⟨by rfl, ?hy1⟩) HS.out ?rest1
  case hy1 => (intro ww _; go_simp; try with_reducible rfl)
  go_simp
  refine wpAnyH_take (i := 1) (v := ?v2) rfl (by kernel_rfl) (by kernel_rfl) (by kernel_rfl) (fun _ _ _ h => h) (Or.inl ⟨by rfl, ?hy2⟩) HS.out ?rest2
  case hy2 => (intro ww _; go_simp; try with_reducible rfl)
  go_simp
  refine wpAnyH_take (i := 2) (v := ?v3) rfl (by kernel_rfl) (by kernel_rfl) (by kernel_rfl) (fun _ _ _ h => h) (Or.inl ⟨by rfl, ?hy3⟩) HS.out ?rest3
  case hy3 => (intro ww _; go_simp; try with_reducible rfl)
  go_simp
  refine wpAnyH_take (i := 3) (v := ?v4) rfl (by kernel_rfl) (by kernel_rfl) (by kernel_rfl) (fun _ _ _ h => h) (Or.inl ⟨by rfl, ?hy4⟩) HS.out ?rest4
  case hy4 => (intro ww _; go_simp; try with_reducible rfl)
  go_simp
  refine wpAnyH_take (i := 4) (v := ?v5) rfl (by kernel_rfl) (by kernel_rfl) (by kernel_rfl) (fun _ _ _ h => h) (Or.inl ⟨by rfl, ?hy5⟩) HS.out ?rest5
  case hy5 => (intro ww _; go_simp; try with_reducible rfl)
  go_simp
  refine wpAnyH_take (i := 7) (v := ?v6) rfl (by kernel_rfl) (by kernel_rfl) (by kernel_rfl) (fun _ _ _ h => h) (Or.inl ⟨by rfl, ?hy6⟩) HS.out ?rest6
  case hy6 => (intro ww _; go_simp; try with_reducible rfl)
  go_simp
  refine wpAnyH_take (i := 8) (v := ?v7) rfl (by kernel_rfl) (by kernel_rfl) (by kernel_rfl) (fun _ _ _ h => h) (Or.inl ⟨by rfl, ?hy7⟩) HS.out ?rest7
  case hy7 => (intro ww _; go_simp; try with_reducible rfl)
  go_simp
  refine wpAnyH_take (i := 9) (v := ?v8) rfl (by kernel_rfl) (by kernel_rfl) (by kernel_rfl) (fun _ _ _ h => h) (Or.inl ⟨by rfl, ?hy8⟩) HS.out ?rest8
  case hy8 => (intro ww _; go_simp; try with_reducible rfl)
  go_simp
  refine wpAnyH_take (i := 10) (v := ?v9) rfl (by kernel_rfl) (by kernel_rfl) (by kernel_rfl) (fun _ _ _ h => h) (Or.inl ⟨by rfl, ?hy9⟩) HS.out ?rest9
  case hy9 => (intro ww hS; have y2 : ww.cell? ⟨g, 2, none⟩ = some (.slice an s.nxt.length cn) := hS; go_simp; try with_reducible rfl)
  go_simp
  refine wpAnyH_all (rs := [5, 11]) (by kernel_rfl) (by simp) ?_
  intro i hi
  rcases List.mem_cons.1 hi with rfl | hi
  · clear hi
    refine wpOp_d rfl (by rfl) (fun K hK => ?_)
    have c0 := H3.out.ld.c0
    go_simp
    refine hK _ _ ⟨H3.out.ld.c2, ?_⟩
    clear hK K c0
    go_simp
    refine wpAnyH_take (i := 6) (v := ?v10) rfl (by kernel_rfl) (by kernel_rfl) (by kernel_rfl) (fun _ _ _ h => h) (Or.inl ⟨by rfl, ?hy10⟩) HS.out ?rest10
    case hy10 => (intro ww _; go_simp; try with_reducible rfl)
    go_simp
    refine wpAnyH_all (rs := [11]) (by kernel_rfl) (by simp) ?_
    intro i hi
    obtain rfl := List.mem_singleton.1 hi
    clear hi
    refine wpOp_d rfl (by rfl) (fun K hK => ?_)
    go_simp
    refine (cloneInts_any an s.nxt.length cn s.nxt rfl HK.out.2 _ H3.out.ld.ix).mono ?_
    rintro e w4 ⟨a1, c1, rfl, hN, hbb⟩
    have H4 := hid (H3.out.keep hbb)
    have HN := hid hN
    clear hN hbb
    refine hK _ _ ⟨H4.out.ld.c2, ?_⟩
    clear hK K
    go_simp
    refine wpAnyH_take (i := 12) (v := ?v11) rfl (by kernel_rfl) (by kernel_rfl) (by kernel_rfl) (fun _ _ _ h => h) (Or.inl ⟨by rfl, ?hy11⟩) H4.out.ld.c2 ?rest11
    case hy11 => (intro ww _; go_simp; try with_reducible rfl)
    go_simp
    refine wpAnyH_take (i := 13) (v := ?v12) rfl (by kernel_rfl) (by kernel_rfl) (by kernel_rfl) (fun _ _ _ h => h) (Or.inl ⟨by rfl, ?hy12⟩) H4.out.ld.c2 ?rest12
    case hy12 => (intro ww _; go_simp; try with_reducible rfl)
    go_simp
    refine wpAnyH_take (i := 14) (v := ?v13) rfl (by kernel_rfl) (by kernel_rfl) (by kernel_rfl) (fun _ _ _ h => h) (Or.inl ⟨by rfl, ?hy13⟩) H4.out.ld.c2 ?rest13
    case hy13 => (intro ww _; go_simp; try with_reducible rfl)
    go_simp
    refine wpAnyH_all (rs := [15]) (by kernel_rfl) (by simp) ?_
    intro i hi
    obtain rfl := List.mem_singleton.1 hi
    clear hi
    refine wpOp_d rfl (by rfl) (fun K hK => ?_)
    have c0 := H4.out.ld.c0
    have c1x := H4.out.ld.c1
    have f0 := H4.out.ld.fr 0
    have f1 := H4.out.ld.fr 1
    go_simp
    obtain ⟨w5, e5⟩ : ∃ u, u = (w4.setCell ⟨g, 0, none⟩ (.int .i64 ((s.ep : Int) + 1))).setCell ⟨g, 1, none⟩ (.slice a1 s.nxt.length c1) := ⟨_, rfl⟩
    have hone : One g w4 w5 := e5 ▸ one_two w4 g _ _
    have hblk : w5.heap[g]? = some (.cells (ldC (((s.ep + 1 : Nat)) : Int) (.slice a1 s.nxt.length c1) (.slice an s.nxt.length cn) (s.dn : Int) (.map (some m)) s.lst).toArray 62 (0, 0)) := by
      rw [e5]
      exact (blk_set (blk_set H4.out.ld.blk 0 _) 1 _).trans (by simp [ldC])
    have H5 : Hid (LdA w5 g m a1 an c1 cn { s with ep := s.ep + 1, mem := s.nxt } ∧ Out (fpL g m am an) w w5) := hid ⟨H4.out.ld.setg hone hblk HN.out.ints H4.out.ld.ix (fun x hx => ⟨far_new H3.out.ld (Nat.le_refl _) (HN.out.far x hx).1, (HN.out.far x hx).2.lt⟩) H4.out.ld.na rfl HK.out.1, hone.outB H4.out.out (.inl fp_gm.1)⟩
    rw [← e5]
    clear e5 hone hblk c0 c1x f0 f1
    refine hK _ _ ⟨H5.out.1.c2, ?_⟩
    clear hK K
    go_simp
    refine wpAnyH_done (by kernel_rfl) ?_ _
    go_simp
    go_wp2
    go_ret
    exact ⟨rfl, a1, c1, H5.out.1, H5.out.2, fun x hx => Nat.le_trans H3.out.out.size (HN.out.far x hx).1⟩
  · obtain rfl := List.mem_singleton.1 hi
    clear hi
    refine wpOp_d rfl (by rfl) (fun K hK => ?_)
    go_simp
    refine (cloneInts_any an s.nxt.length cn s.nxt rfl HK.out.2 _ H3.out.ld.ix).mono ?_
    rintro e w4 ⟨a1, c1, rfl, hN, hbb⟩
    have H4 := hid (H3.out.keep hbb)
    have HN := hid hN
    clear hN hbb
    refine hK _ _ ⟨H4.out.ld.c2, ?_⟩
    clear hK K
    go_simp
    refine wpAnyH_all (rs := [5]) (by kernel_rfl) (by simp) ?_
    intro i hi
    obtain rfl := List.mem_singleton.1 hi
    clear hi
    refine wpOp_d rfl (by rfl) (fun K hK => ?_)
    have c0 := H4.out.ld.c0
    go_simp
    refine hK _ _ ⟨H4.out.ld.c2, ?_⟩
    clear hK K c0
    go_simp
    refine wpAnyH_take (i := 6) (v := ?v14) rfl (by kernel_rfl) (by kernel_rfl) (by kernel_rfl) (fun _ _ _ h => h) (Or.inl ⟨by rfl, ?hy14⟩) H4.out.ld.c2 ?rest14
    case hy14 => (intro ww _; go_simp; try with_reducible rfl)
    go_simp
    refine wpAnyH_take (i := 12) (v := ?v15) rfl (by kernel_rfl) (by kernel_rfl) (by kernel_rfl) (fun _ _ _ h => h) (Or.inl ⟨by rfl, ?hy15⟩) H4.out.ld.c2 ?rest15
    case hy15 => (intro ww _; go_simp; try with_reducible rfl)
    go_simp
    refine wpAnyH_take (i := 13) (v := ?v16) rfl (by kernel_rfl) (by kernel_rfl) (by kernel_rfl) (fun _ _ _ h => h) (Or.inl ⟨by rfl, ?hy16⟩) H4.out.ld.c2 ?rest16
    case hy16 => (intro ww _; go_simp; try with_reducible rfl)
    go_simp
    refine wpAnyH_take (i := 14) (v := ?v17) rfl (by kernel_rfl) (by kernel_rfl) (by kernel_rfl) (fun _ _ _ h => h) (Or.inl ⟨by rfl, ?hy17⟩) H4.out.ld.c2 ?rest17
    case hy17 => (intro ww _; go_simp; try with_reducible rfl)
    go_simp
    refine wpAnyH_all (rs := [15]) (by kernel_rfl) (by simp) ?_
    intro i hi
    obtain rfl := List.mem_singleton.1 hi
    clear hi
    refine wpOp_d rfl (by rfl) (fun K hK => ?_)
    have c0 := H4.out.ld.c0
    have c1x := H4.out.ld.c1
    have f0 := H4.out.ld.fr 0
    have f1 := H4.out.ld.fr 1
    go_simp
    obtain ⟨w5, e5⟩ : ∃ u, u = (w4.setCell ⟨g, 0, none⟩ (.int .i64 ((s.ep : Int) + 1))).setCell ⟨g, 1, none⟩ (.slice a1 s.nxt.length c1) := ⟨_, rfl⟩
    have hone : One g w4 w5 := e5 ▸ one_two w4 g _ _
    have hblk : w5.heap[g]? = some (.cells (ldC (((s.ep + 1 : Nat)) : Int) (.slice a1 s.nxt.length c1) (.slice an s.nxt.length cn) (s.dn : Int) (.map (some m)) s.lst).toArray 62 (0, 0)) := by
      rw [e5]
      exact (blk_set (blk_set H4.out.ld.blk 0 _) 1 _).trans (by simp [ldC])
    have H5 : Hid (LdA w5 g m a1 an c1 cn { s with ep := s.ep + 1, mem := s.nxt } ∧ Out (fpL g m am an) w w5) := hid ⟨H4.out.ld.setg hone hblk HN.out.ints H4.out.ld.ix (fun x hx => ⟨far_new H3.out.ld (Nat.le_refl _) (HN.out.far x hx).1, (HN.out.far x hx).2.lt⟩) H4.out.ld.na rfl HK.out.1, hone.outB H4.out.out (.inl fp_gm.1)⟩
    rw [← e5]
    clear e5 hone hblk c0 c1x f0 f1
    refine hK _ _ ⟨H5.out.1.c2, ?_⟩
    clear hK K
    go_simp
    refine wpAnyH_done (by kernel_rfl) ?_ _
    go_simp
    go_wp2
    go_ret
    exact ⟨rfl, a1, c1, H5.out.1, H5.out.2, fun x hx => Nat.le_trans H3.out.out.size (HN.out.far x hx).1⟩
theorem gturn_any {F : List Nat} {w : World} {v : Value} {s : Ls} (h : LdAt F w v s) :
    Calls Try.prog 10 #[v] w fun e w' => e = .returned (.int .i64 (turnE s)) ∧ LdTo F w w' v (turnS s) := by
  obtain ⟨g, m, am, an, cm, cn, rfl, rfl, h⟩ := h
  cases hF : fullS s with
  | false =>
    have hE : turnE s = 18 := by rw [turnE, hF]; rfl
    rw [turnS, hE]
    exact (gturn_not h hF).mono fun _ _ ⟨he, h1, h2⟩ => ⟨he, _, h1.at, fun b hb => .inl hb, h2⟩
  | true =>
    by_cases h60 : s.ep = 60
    · have hE : turnE s = 3 := by rw [turnE, hF, if_neg (by simp), if_pos h60]
      rw [turnS, hE]
      exact (gturn_last h hF h60).mono fun _ _ ⟨he, h1, h2⟩ => ⟨he, _, h1.at, fun b hb => .inl hb, h2⟩
    · have hE : turnE s = 0 := by rw [turnE, hF, if_neg (by simp), if_neg h60]
      rw [turnS, hE]
      refine (gturn_yes h hF h60).mono fun _ _ ⟨he, a1, c1, h1, h2, h3⟩ => ⟨he, _, h1.at, fun b hb => ?_, h2⟩
      rcases mem_fp.1 hb with e | e | ⟨x, hx, e⟩ | ⟨x, hx, e⟩
      · exact .inl (mem_fp.2 (.inl e))
      · exact .inl (mem_fp.2 (.inr (.inl e)))
      · exact .inr (by rw [e]; exact h3 x hx)
      · exact .inl (mem_fp.2 (.inr (.inr (.inr ⟨x, hx, e⟩))))
end Go.Proofs.Ytpeagpeifmimlab
