/- Texts laid together: LpI LpJ LpK LtA. -/
import Derived.Test.YtecidbdbdnnglaaGreatMx5
/- The program's ledger: Do, Turn. -/
namespace Go.Proofs.YtecidbdbdnnglaaGreat
open Go.RowKit

theorem LnTo.to {w w' : World} {g m : Nat} {am an : Option Addr} {cm : Nat} {s : Ls} (h : LnTo w w' g m am an cm s) : LdTo (fpL g m am an) w w' (.pointer (some ⟨g, 0, none⟩)) s := by
  obtain ⟨an', cn', h1, h2, h3⟩ := h
  exact ⟨_, h1.at, fp_next h3, h2⟩
theorem LdA.done {w : World} {g m : Nat} {am an : Option Addr} {cm cn : Nat} {s : Ls} (h : LdA w g m am an cm cn s) (hf : fullS s = false) : LdA (w.setCell ⟨g, 3, none⟩ (.int .i64 ((s.dn : Int) + 1))) g m am an cm cn (moreS s) :=
  h.setg (one_cell _ g 3 _) ((blk_set h.blk 3 _).trans (by simp [ldC, moreS])) h.im h.ix h.ma h.na rfl (more_ok h.ok hf)
set_option maxRecDepth 100000 in
set_option maxHeartbeats 6400000 in
theorem gdo_no {w : World} {g m : Nat} {am an : Option Addr} {cm cn : Nat} {s : Ls} (h : LdA w g m am an cm cn s) (r : Rq) (hR : rightB r = false) (hN : nullB r = false) :
    Calls Tryz.prog 16 #[.pointer (some ⟨g, 0, none⟩), .agg #[.int .i64 r.c, .int .i64 r.st, .int .i64 r.k, .string r.key, .float .f64 r.b, .int .i64 r.id]] w fun e w' => e = .returned (.tuple #[.agg #[.int .i64 (0), .float .f64 (0)], .int .i64 1]) ∧ LnTo w w' g m am an cm (s) := by
  have H0 := hid (lq_new h r)
  have HR : Hid (∀ u : World, Calls Tryz.prog 61 #[.agg #[.int .i64 r.c, .int .i64 r.st, .int .i64 r.k, .string r.key, .float .f64 r.b, .int .i64 r.id]] u fun e w' => e = .returned (.bool false) ∧ Below u.heap.size u w') := hid (fun u => by rw [← hR]; exact dright_any r u)
  have HN : Hid (∀ u : World, Calls Tryz.prog 62 #[.agg #[.int .i64 r.c, .int .i64 r.st, .int .i64 r.k, .string r.key, .float .f64 r.b, .int .i64 r.id]] u fun e w' => e = .returned (.bool false) ∧ Below u.heap.size u w') := hid (fun u => by rw [← hN]; exact dnull_any r u)
  obtain ⟨⟨d0, d1⟩, d2, d3, d4, d5⟩ := H0.out.rq.cells
  clear h hR hN
  go_enter Tryz.func16, Tryz.ntmps16
  go_wp2_with (first
    | (have := H3; refine wl_store_rs rfl _ _ rfl (w.heap.size + 1) rfl 0 (0) 0 (0) rfl H3.out.lr.rs ?_; intro w4 Hq; have H4 := hid (H3.out.res Hq.out.1 Hq.out.2); clear Hq)
    | (go_at_call 62; have := H2; refine (HN.out _).mono ?_; rintro e w3 ⟨rfl, hbb⟩; have H3 := hid (H2.out.keep hbb); clear hbb; clear d0 d1 d2 d3 d4 d5; obtain ⟨⟨d0, d1⟩, d2, d3, d4, d5⟩ := H3.out.rq.cells)
    | (go_at_call 61; have := T0; refine (HR.out _).mono ?_; rintro e w2 ⟨rfl, hbb⟩; have H2 := hid (H0.out.keep hbb); clear hbb; clear d0 d1 d2 d3 d4 d5; obtain ⟨⟨d0, d1⟩, d2, d3, d4, d5⟩ := H2.out.rq.cells)
    | (go_at_call 52; refine (gisNone_any H0.out.lr.ld).mono ?_; rintro e w1 ⟨rfl, rfl⟩; have T0 := hid True.intro))
  refine ret_pair (s := 4) (s2 := 5) (ad := ⟨w.heap.size + 1, 0, none⟩) rfl rfl (load_rs _ _ (0) (0) H4.out.lr.rs) rfl rfl ?_
  exact ⟨rfl, LnTo.of H4.out.lr.ld H4.out.lr.out⟩
set_option maxRecDepth 100000 in
set_option maxHeartbeats 6400000 in
theorem gdo_rfull {w : World} {g m : Nat} {am an : Option Addr} {cm cn : Nat} {s : Ls} (h : LdA w g m am an cm cn s) (r : Rq) (hR : rightB r = true) (hN : nullB r = false) (hF : fullS s = true) :
    Calls Tryz.prog 16 #[.pointer (some ⟨g, 0, none⟩), .agg #[.int .i64 r.c, .int .i64 r.st, .int .i64 r.k, .string r.key, .float .f64 r.b, .int .i64 r.id]] w fun e w' => e = .returned (.tuple #[.agg #[.int .i64 (0), .float .f64 (0)], .int .i64 18]) ∧ LnTo w w' g m am an cm (s) := by
  have H0 := hid (lq_new h r)
  have HR : Hid (∀ u : World, Calls Tryz.prog 61 #[.agg #[.int .i64 r.c, .int .i64 r.st, .int .i64 r.k, .string r.key, .float .f64 r.b, .int .i64 r.id]] u fun e w' => e = .returned (.bool true) ∧ Below u.heap.size u w') := hid (fun u => by rw [← hR]; exact dright_any r u)
  have HN : Hid (∀ u : World, Calls Tryz.prog 62 #[.agg #[.int .i64 r.c, .int .i64 r.st, .int .i64 r.k, .string r.key, .float .f64 r.b, .int .i64 r.id]] u fun e w' => e = .returned (.bool false) ∧ Below u.heap.size u w') := hid (fun u => by rw [← hN]; exact dnull_any r u)
  have HF : Hid (∀ u : World, LdA u g m am an cm cn s → Calls Tryz.prog 29 #[.pointer (some ⟨g, 0, none⟩)] u fun e w' => e = .returned (.bool true) ∧ Below u.heap.size u w') := hid (fun u hu => by rw [← hF]; exact gfull_any hu)
  obtain ⟨⟨d0, d1⟩, d2, d3, d4, d5⟩ := H0.out.rq.cells
  clear h hR hN hF
  go_enter Tryz.func16, Tryz.ntmps16
  go_wp2_with (first
    | (have := H3; refine wl_store_rs rfl _ _ rfl (w.heap.size + 1) rfl 0 (0) 0 (0) rfl H3.out.lr.rs ?_; intro w4 Hq; have H4 := hid (H3.out.res Hq.out.1 Hq.out.2); clear Hq)
    | (go_at_call 29; have := H2; refine (HF.out _ H2.out.lr.ld).mono ?_; rintro e w3 ⟨rfl, hbb⟩; have H3 := hid (H2.out.keep hbb); clear hbb; clear d0 d1 d2 d3 d4 d5; obtain ⟨⟨d0, d1⟩, d2, d3, d4, d5⟩ := H3.out.rq.cells; have c3 := H3.out.lr.ld.c3; have f3 := H3.out.lr.ld.fr 3)
    | (go_at_call 61; have := T0; refine (HR.out _).mono ?_; rintro e w2 ⟨rfl, hbb⟩; have H2 := hid (H0.out.keep hbb); clear hbb; clear d0 d1 d2 d3 d4 d5; obtain ⟨⟨d0, d1⟩, d2, d3, d4, d5⟩ := H2.out.rq.cells)
    | (go_at_call 52; refine (gisNone_any H0.out.lr.ld).mono ?_; rintro e w1 ⟨rfl, rfl⟩; have T0 := hid True.intro))
  refine ret_pair (s := 4) (s2 := 5) (ad := ⟨w.heap.size + 1, 0, none⟩) rfl rfl (load_rs _ _ (0) (0) H4.out.lr.rs) rfl rfl ?_
  exact ⟨rfl, LnTo.of H4.out.lr.ld H4.out.lr.out⟩
set_option maxRecDepth 100000 in
set_option maxHeartbeats 6400000 in
theorem gdo_nfull {w : World} {g m : Nat} {am an : Option Addr} {cm cn : Nat} {s : Ls} (h : LdA w g m am an cm cn s) (r : Rq) (hR : rightB r = false) (hN : nullB r = true) (hF : fullS s = true) :
    Calls Tryz.prog 16 #[.pointer (some ⟨g, 0, none⟩), .agg #[.int .i64 r.c, .int .i64 r.st, .int .i64 r.k, .string r.key, .float .f64 r.b, .int .i64 r.id]] w fun e w' => e = .returned (.tuple #[.agg #[.int .i64 (0), .float .f64 (0)], .int .i64 18]) ∧ LnTo w w' g m am an cm (s) := by
  have H0 := hid (lq_new h r)
  have HR : Hid (∀ u : World, Calls Tryz.prog 61 #[.agg #[.int .i64 r.c, .int .i64 r.st, .int .i64 r.k, .string r.key, .float .f64 r.b, .int .i64 r.id]] u fun e w' => e = .returned (.bool false) ∧ Below u.heap.size u w') := hid (fun u => by rw [← hR]; exact dright_any r u)
  have HN : Hid (∀ u : World, Calls Tryz.prog 62 #[.agg #[.int .i64 r.c, .int .i64 r.st, .int .i64 r.k, .string r.key, .float .f64 r.b, .int .i64 r.id]] u fun e w' => e = .returned (.bool true) ∧ Below u.heap.size u w') := hid (fun u => by rw [← hN]; exact dnull_any r u)
  have HF : Hid (∀ u : World, LdA u g m am an cm cn s → Calls Tryz.prog 29 #[.pointer (some ⟨g, 0, none⟩)] u fun e w' => e = .returned (.bool true) ∧ Below u.heap.size u w') := hid (fun u hu => by rw [← hF]; exact gfull_any hu)
  obtain ⟨⟨d0, d1⟩, d2, d3, d4, d5⟩ := H0.out.rq.cells
  clear h hR hN hF
  go_enter Tryz.func16, Tryz.ntmps16
  go_wp2_with (first
    | (have := H4; refine wl_store_rs rfl _ _ rfl (w.heap.size + 1) rfl 0 (0) 0 (0) rfl H4.out.lr.rs ?_; intro w5 Hq; have H5 := hid (H4.out.res Hq.out.1 Hq.out.2); clear Hq)
    | (go_at_call 29; have := H3; refine (HF.out _ H3.out.lr.ld).mono ?_; rintro e w4 ⟨rfl, hbb⟩; have H4 := hid (H3.out.keep hbb); clear hbb; clear d0 d1 d2 d3 d4 d5; obtain ⟨⟨d0, d1⟩, d2, d3, d4, d5⟩ := H4.out.rq.cells; have c3 := H4.out.lr.ld.c3; have f3 := H4.out.lr.ld.fr 3)
    | (go_at_call 62; have := H2; refine (HN.out _).mono ?_; rintro e w3 ⟨rfl, hbb⟩; have H3 := hid (H2.out.keep hbb); clear hbb; clear d0 d1 d2 d3 d4 d5; obtain ⟨⟨d0, d1⟩, d2, d3, d4, d5⟩ := H3.out.rq.cells)
    | (go_at_call 61; have := T0; refine (HR.out _).mono ?_; rintro e w2 ⟨rfl, hbb⟩; have H2 := hid (H0.out.keep hbb); clear hbb; clear d0 d1 d2 d3 d4 d5; obtain ⟨⟨d0, d1⟩, d2, d3, d4, d5⟩ := H2.out.rq.cells)
    | (go_at_call 52; refine (gisNone_any H0.out.lr.ld).mono ?_; rintro e w1 ⟨rfl, rfl⟩; have T0 := hid True.intro))
  refine ret_pair (s := 4) (s2 := 5) (ad := ⟨w.heap.size + 1, 0, none⟩) rfl rfl (load_rs _ _ (0) (0) H5.out.lr.rs) rfl rfl ?_
  exact ⟨rfl, LnTo.of H5.out.lr.ld H5.out.lr.out⟩
set_option maxRecDepth 100000 in
set_option maxHeartbeats 6400000 in
theorem gdo_null {w : World} {g m : Nat} {am an : Option Addr} {cm cn : Nat} {s : Ls} (h : LdA w g m am an cm cn s) (r : Rq) (hR : rightB r = false) (hN : nullB r = true) (hF : fullS s = false) :
    Calls Tryz.prog 16 #[.pointer (some ⟨g, 0, none⟩), .agg #[.int .i64 r.c, .int .i64 r.st, .int .i64 r.k, .string r.key, .float .f64 r.b, .int .i64 r.id]] w fun e w' => e = .returned (.tuple #[.agg #[.int .i64 (8), .float .f64 (0)], .int .i64 0]) ∧ LnTo w w' g m am an cm (moreS s) := by
  have H0 := hid (lq_new h r)
  have HR : Hid (∀ u : World, Calls Tryz.prog 61 #[.agg #[.int .i64 r.c, .int .i64 r.st, .int .i64 r.k, .string r.key, .float .f64 r.b, .int .i64 r.id]] u fun e w' => e = .returned (.bool false) ∧ Below u.heap.size u w') := hid (fun u => by rw [← hR]; exact dright_any r u)
  have HN : Hid (∀ u : World, Calls Tryz.prog 62 #[.agg #[.int .i64 r.c, .int .i64 r.st, .int .i64 r.k, .string r.key, .float .f64 r.b, .int .i64 r.id]] u fun e w' => e = .returned (.bool true) ∧ Below u.heap.size u w') := hid (fun u => by rw [← hN]; exact dnull_any r u)
  have HF : Hid (∀ u : World, LdA u g m am an cm cn s → Calls Tryz.prog 29 #[.pointer (some ⟨g, 0, none⟩)] u fun e w' => e = .returned (.bool false) ∧ Below u.heap.size u w') := hid (fun u hu => by rw [← hF]; exact gfull_any hu)
  have HFF := hid hF
  have hw1 : IntKind.i64.wrap ((s.dn : Int) + 1) = (s.dn : Int) + 1 := by have h1 := h.ok.hi; have h2 := h.ok.ep; simp [IntKind.wrap, IntKind.bits, IntKind.signed]; omega
  obtain ⟨⟨d0, d1⟩, d2, d3, d4, d5⟩ := H0.out.rq.cells
  clear h hR hN hF
  go_enter Tryz.func16, Tryz.ntmps16
  go_wp2_with (first
    | (have := H5; refine wl_store_rs rfl _ _ rfl (w.heap.size + 1) rfl 0 (8) 0 (0) rfl H5.out.lr.rs ?_; intro w6 Hq; have H6 := hid (H5.out.res Hq.out.1 Hq.out.2); clear Hq)
    | (go_at_call 62; have := H5x; refine (HN.out _).mono ?_; rintro e w5 ⟨rfl, hbb⟩; have H5 := hid (H5x.out.keep hbb); clear hbb H5x c3 f3 x0 x1 x2 x3 x4 x5; clear d0 d1 d2 d3 d4 d5; obtain ⟨⟨d0, d1⟩, d2, d3, d4, d5⟩ := H5.out.rq.cells)
    | (go_at_call 29; have := H3; refine (HF.out _ H3.out.lr.ld).mono ?_; rintro e w4 ⟨rfl, hbb⟩; have H4 := hid (H3.out.keep hbb); clear hbb; clear d0 d1 d2 d3 d4 d5; obtain ⟨⟨d0, d1⟩, d2, d3, d4, d5⟩ := H4.out.rq.cells; have c3 := H4.out.lr.ld.c3; have f3 := H4.out.lr.ld.fr 3; have H5x := hid (H4.out.own (H4.out.lr.ld.done HFF.out) (one_cell _ g 3 _) fp_gm.1); obtain ⟨⟨x0, x1⟩, x2, x3, x4, x5⟩ := H5x.out.rq.cells)
    | (go_at_call 62; have := H2; refine (HN.out _).mono ?_; rintro e w3 ⟨rfl, hbb⟩; have H3 := hid (H2.out.keep hbb); clear hbb; clear d0 d1 d2 d3 d4 d5; obtain ⟨⟨d0, d1⟩, d2, d3, d4, d5⟩ := H3.out.rq.cells)
    | (go_at_call 61; have := T0; refine (HR.out _).mono ?_; rintro e w2 ⟨rfl, hbb⟩; have H2 := hid (H0.out.keep hbb); clear hbb; clear d0 d1 d2 d3 d4 d5; obtain ⟨⟨d0, d1⟩, d2, d3, d4, d5⟩ := H2.out.rq.cells)
    | (go_at_call 52; refine (gisNone_any H0.out.lr.ld).mono ?_; rintro e w1 ⟨rfl, rfl⟩; have T0 := hid True.intro))
  refine ret_pair (s := 4) (s2 := 5) (ad := ⟨w.heap.size + 1, 0, none⟩) rfl rfl (load_rs _ _ (8) (0) H6.out.lr.rs) rfl rfl ?_
  exact ⟨rfl, LnTo.of H6.out.lr.ld H6.out.lr.out⟩
set_option maxRecDepth 100000 in
set_option maxHeartbeats 6400000 in
theorem gdo_right {w : World} {g m : Nat} {am an : Option Addr} {cm cn : Nat} {s : Ls} (h : LdA w g m am an cm cn s) (r : Rq) (hb : r.b < 18446744073709551616) (hR : rightB r = true) (hN : nullB r = false) (hF : fullS s = false) :
    Calls Tryz.prog 16 #[.pointer (some ⟨g, 0, none⟩), .agg #[.int .i64 r.c, .int .i64 r.st, .int .i64 r.k, .string r.key, .float .f64 r.b, .int .i64 r.id]] w fun e w' => e = .returned (.tuple #[.agg #[.int .i64 (ansC s r), .float .f64 (ansF s r)], .int .i64 0]) ∧ LnTo w w' g m am an cm (ansS (moreS s) r) := by
  have H0 := hid (lq_new h r)
  have HR : Hid (∀ u : World, Calls Tryz.prog 61 #[.agg #[.int .i64 r.c, .int .i64 r.st, .int .i64 r.k, .string r.key, .float .f64 r.b, .int .i64 r.id]] u fun e w' => e = .returned (.bool true) ∧ Below u.heap.size u w') := hid (fun u => by rw [← hR]; exact dright_any r u)
  have HN : Hid (∀ u : World, Calls Tryz.prog 62 #[.agg #[.int .i64 r.c, .int .i64 r.st, .int .i64 r.k, .string r.key, .float .f64 r.b, .int .i64 r.id]] u fun e w' => e = .returned (.bool false) ∧ Below u.heap.size u w') := hid (fun u => by rw [← hN]; exact dnull_any r u)
  have HF : Hid (∀ u : World, LdA u g m am an cm cn s → Calls Tryz.prog 29 #[.pointer (some ⟨g, 0, none⟩)] u fun e w' => e = .returned (.bool false) ∧ Below u.heap.size u w') := hid (fun u hu => by rw [← hF]; exact gfull_any hu)
  have HFF := hid hF
  have hw1 : IntKind.i64.wrap ((s.dn : Int) + 1) = (s.dn : Int) + 1 := by have h1 := h.ok.hi; have h2 := h.ok.ep; simp [IntKind.wrap, IntKind.bits, IntKind.signed]; omega
  have HA : Hid (∀ u : World, LdA u g m am an cm cn (moreS s) → Calls Tryz.prog 63 #[.pointer (some ⟨g, 0, none⟩), .agg #[.int .i64 r.c, .int .i64 r.st, .int .i64 r.k, .string r.key, .float .f64 r.b, .int .i64 r.id]] u fun e w' => e = .returned (.agg #[.int .i64 (ansC s r), .float .f64 (ansF s r)]) ∧ LnTo u w' g m am an cm (ansS (moreS s) r)) := hid (fun u hu => ganswer_any hu r hR hb)
  generalize ansC s r = C at HA ⊢
  generalize ansF s r = D at HA ⊢
  generalize ansS (moreS s) r = S' at HA ⊢
  obtain ⟨⟨d0, d1⟩, d2, d3, d4, d5⟩ := H0.out.rq.cells
  clear h hR hN hb hF
  go_enter Tryz.func16, Tryz.ntmps16
  go_wp2_with (first
    | (have := H5; refine wl_store_rs rfl _ _ rfl (w.heap.size + 1) rfl 0 (C) 0 (D) rfl H5.out.lr.rs ?_; intro w6 Hq; have H6 := hid (H5.out.res Hq.out.1 Hq.out.2); clear Hq)
    | (go_at_call 63; have := H4; refine (HA.out _ H4.out.lr.ld).mono ?_; rintro e w5 ⟨rfl, an1, cn1, hL, hO, hX⟩; have H5 := hid (H4.out.viaN hL hO (fun b hb => .inl hb) hX); have HX := hid hX; clear hL hO hX; clear d0 d1 d2 d3 d4 d5)
    | (go_at_call 62; have := H4x; refine (HN.out _).mono ?_; rintro e w4 ⟨rfl, hbb⟩; have H4 := hid (H4x.out.keep hbb); clear hbb H4x c3 f3 x0 x1 x2 x3 x4 x5; clear d0 d1 d2 d3 d4 d5; obtain ⟨⟨d0, d1⟩, d2, d3, d4, d5⟩ := H4.out.rq.cells)
    | (go_at_call 29; have := H2; refine (HF.out _ H2.out.lr.ld).mono ?_; rintro e w3 ⟨rfl, hbb⟩; have H3 := hid (H2.out.keep hbb); clear hbb; clear d0 d1 d2 d3 d4 d5; obtain ⟨⟨d0, d1⟩, d2, d3, d4, d5⟩ := H3.out.rq.cells; have c3 := H3.out.lr.ld.c3; have f3 := H3.out.lr.ld.fr 3; have H4x := hid (H3.out.own (H3.out.lr.ld.done HFF.out) (one_cell _ g 3 _) fp_gm.1); obtain ⟨⟨x0, x1⟩, x2, x3, x4, x5⟩ := H4x.out.rq.cells)
    | (go_at_call 61; have := T0; refine (HR.out _).mono ?_; rintro e w2 ⟨rfl, hbb⟩; have H2 := hid (H0.out.keep hbb); clear hbb; clear d0 d1 d2 d3 d4 d5; obtain ⟨⟨d0, d1⟩, d2, d3, d4, d5⟩ := H2.out.rq.cells)
    | (go_at_call 52; refine (gisNone_any H0.out.lr.ld).mono ?_; rintro e w1 ⟨rfl, rfl⟩; have T0 := hid True.intro))
  refine ret_pair (s := 4) (s2 := 5) (ad := ⟨w.heap.size + 1, 0, none⟩) rfl rfl (load_rs _ _ (C) (D) H6.out.lr.rs) rfl rfl ?_
  exact ⟨rfl, LnTo.low H4.out.lr.out.size ⟨an1, cn1, H6.out.lr.ld, H6.out.lr.out, HX.out⟩⟩
theorem gdo_any {F : List Nat} {w : World} {v : Value} {s : Ls} (h : LdAt F w v s) (r : Rq) (hb : r.b < 18446744073709551616) :
    Calls Tryz.prog 16 #[v, .agg #[.int .i64 r.c, .int .i64 r.st, .int .i64 r.k, .string r.key, .float .f64 r.b, .int .i64 r.id]] w fun e w' => e = .returned (.tuple #[.agg #[.int .i64 (doC s r), .float .f64 (doF s r)], .int .i64 (doE s r)]) ∧ LdTo F w w' v (doS s r) := by
  obtain ⟨g, m, am, an, cm, cn, rfl, rfl, h⟩ := h
  cases hR : rightB r with
  | true =>
    have hN := right_null hR
    have hf : fitR r = true := by rw [fitR, hR, hN]; rfl
    cases hF : fullS s with
    | true =>
      have hE : doE s r = 18 := by rw [doE, hf, hF]; rfl
      rw [doC, doF, doS, hE]
      exact (gdo_rfull h r hR hN hF).mono fun _ _ ⟨he, ht⟩ => ⟨he, ht.to⟩
    | false =>
      have hE : doE s r = 0 := by rw [doE, hf, hF]; rfl
      rw [doC, doF, doS, hE, hN]
      exact (gdo_right h r hb hR hN hF).mono fun _ _ ⟨he, ht⟩ => ⟨he, ht.to⟩
  | false =>
    cases hN : nullB r with
    | true =>
      have hf : fitR r = true := by rw [fitR, hN]; rfl
      cases hF : fullS s with
      | true =>
        have hE : doE s r = 18 := by rw [doE, hf, hF]; rfl
        rw [doC, doF, doS, hE]
        exact (gdo_nfull h r hR hN hF).mono fun _ _ ⟨he, ht⟩ => ⟨he, ht.to⟩
      | false =>
        have hE : doE s r = 0 := by rw [doE, hf, hF]; rfl
        rw [doC, doF, doS, hE, hN]
        exact (gdo_null h r hR hN hF).mono fun _ _ ⟨he, ht⟩ => ⟨he, ht.to⟩
    | false =>
      have hE : doE s r = 1 := by rw [doE, fitR, hN, hR]; rfl
      rw [doC, doF, doS, hE]
      exact (gdo_no h r hR hN).mono fun _ _ ⟨he, ht⟩ => ⟨he, ht.to⟩
set_option maxRecDepth 100000 in
set_option maxHeartbeats 3200000 in
theorem gdo_nil (r : Rq) (w : World) : Calls Tryz.prog 16 #[.pointer none, .agg #[.int .i64 r.c, .int .i64 r.st, .int .i64 r.k, .string r.key, .float .f64 r.b, .int .i64 r.id]] w fun e w' => e = .returned (.tuple #[.agg #[.int .i64 0, .float .f64 0], .int .i64 1]) ∧ Below w.heap.size w w' := by
  have h1 := (Below.refl w.heap.size w).alloc (Nat.le_refl _) (.cells #[.int .i64 r.c, .int .i64 r.st, .int .i64 r.k, .string r.key, .float .f64 r.b, .int .i64 r.id] 56)
  have H0 : Hid (RsAt ((w.alloc (.cells #[.int .i64 r.c, .int .i64 r.st, .int .i64 r.k, .string r.key, .float .f64 r.b, .int .i64 r.id] 56)).alloc (.cells #[.int .i64 0, .float .f64 0] 50)) (w.heap.size + 1) 0 0 ∧ Below w.heap.size w ((w.alloc (.cells #[.int .i64 r.c, .int .i64 r.st, .int .i64 r.k, .string r.key, .float .f64 r.b, .int .i64 r.id] 56)).alloc (.cells #[.int .i64 0, .float .f64 0] 50))) := hid ⟨snd_alloc w _ _, h1.alloc (by simp) (.cells #[.int .i64 0, .float .f64 0] 50)⟩
  clear h1
  go_enter Tryz.func16, Tryz.ntmps16
  go_wp2_with (first
    | (refine wl_store_rs rfl _ _ rfl (w.heap.size + 1) rfl 0 0 0 0 rfl H0.out.1 ?_; intro w2 Hq; have H2 : Hid (RsAt w2 (w.heap.size + 1) 0 0 ∧ Below w.heap.size w w2) := hid ⟨Hq.out.1, Hq.out.2.below H0.out.2 (Nat.le_succ _)⟩; clear Hq)
    | (go_at_call 52; refine (gisNone_nil _).mono ?_; rintro e w1 ⟨rfl, rfl⟩))
  refine ret_pair (s := 4) (s2 := 5) (ad := ⟨w.heap.size + 1, 0, none⟩) rfl rfl (load_rs _ _ 0 0 H2.out.1) rfl rfl ?_
  exact ⟨rfl, H2.out.2⟩
set_option maxRecDepth 100000 in
theorem gturn_nil (w : World) : Calls Tryz.prog 15 #[.pointer none] w fun e w' => e = .returned (.int .i64 1) ∧ w' = w := by
  go_enter Tryz.func15, Tryz.ntmps15
  go_wp2_with (go_at_call 52; refine (gisNone_nil _).mono ?_; rintro e w1 ⟨rfl, rfl⟩)
  go_ret
  exact ⟨rfl, rfl⟩
set_option maxRecDepth 100000 in
set_option maxHeartbeats 3200000 in
theorem gturn_not {w : World} {g m : Nat} {am an : Option Addr} {cm cn : Nat} {s : Ls} (h : LdA w g m am an cm cn s) (hF : fullS s = false) :
    Calls Tryz.prog 15 #[.pointer (some ⟨g, 0, none⟩)] w fun e w' => e = .returned (.int .i64 18) ∧ LdA w' g m am an cm cn s ∧ Out (fpL g m am an) w w' := by
  have H := hid h
  have HF : Hid (∀ u : World, LdA u g m am an cm cn s → Calls Tryz.prog 29 #[.pointer (some ⟨g, 0, none⟩)] u fun e w' => e = .returned (.bool false) ∧ Below u.heap.size u w') := hid (fun u hu => by rw [← hF]; exact gfull_any hu)
  clear h hF
  go_enter Tryz.func15, Tryz.ntmps15
  go_wp2_with (first
    | (go_at_call 29; refine (HF.out _ H.out).mono ?_; rintro e w2 ⟨rfl, hbb⟩; have H2 := hid (And.intro (H.out.keep hbb) (Out.of_below (F := fpL g m am an) hbb)); clear hbb)
    | (go_at_call 52; refine (gisNone_any H.out).mono ?_; rintro e w1 ⟨rfl, rfl⟩))
  go_ret
  exact ⟨rfl, H2.out⟩
set_option maxRecDepth 100000 in
set_option maxHeartbeats 3200000 in
theorem gturn_last {w : World} {g m : Nat} {am an : Option Addr} {cm cn : Nat} {s : Ls} (h : LdA w g m am an cm cn s) (hF : fullS s = true) (he : s.ep = 60) :
    Calls Tryz.prog 15 #[.pointer (some ⟨g, 0, none⟩)] w fun e w' => e = .returned (.int .i64 3) ∧ LdA w' g m am an cm cn s ∧ Out (fpL g m am an) w w' := by
  have H := hid h
  have HF : Hid (∀ u : World, LdA u g m am an cm cn s → Calls Tryz.prog 29 #[.pointer (some ⟨g, 0, none⟩)] u fun e w' => e = .returned (.bool true) ∧ Below u.heap.size u w') := hid (fun u hu => by rw [← hF]; exact gfull_any hu)
  have HE : Hid (some (Value.int .i64 (s.ep : Int)) = some (.int .i64 60)) := hid (by rw [he]; rfl)
  clear h hF he
  go_enter Tryz.func15, Tryz.ntmps15
  go_wp2_with (first
    | (go_at_call 29; refine (HF.out _ H.out).mono ?_; rintro e w2 ⟨rfl, hbb⟩; have H2 := hid (And.intro (H.out.keep hbb) (Out.of_below (F := fpL g m am an) hbb)); clear hbb; have c0 := H2.out.1.c0.trans HE.out)
    | (go_at_call 52; refine (gisNone_any H.out).mono ?_; rintro e w1 ⟨rfl, rfl⟩))
  go_ret
  exact ⟨rfl, H2.out⟩
/-- While a turn is made. -/
structure TuSt (F : List Nat) (w0 w : World) (g m : Nat) (am an : Option Addr) (cm cn : Nat) (s : Ls) : Prop where
  ld : LdA w g m am an cm cn s
  out : Out F w0 w
theorem TuSt.keep {F : List Nat} {w0 w w' : World} {g m : Nat} {am an : Option Addr} {cm cn : Nat} {s : Ls} (h : TuSt F w0 w g m am an cm cn s) (hb : Below w.heap.size w w') : TuSt F w0 w' g m am an cm cn s := ⟨h.ld.keep hb, h.out.more hb⟩
set_option maxRecDepth 100000 in
set_option maxHeartbeats 6400000 in
theorem gturn_yes {w : World} {g m : Nat} {am an : Option Addr} {cm cn : Nat} {s : Ls} (h : LdA w g m am an cm cn s) (hF : fullS s = true) (he : s.ep ≠ 60) :
    Calls Tryz.prog 15 #[.pointer (some ⟨g, 0, none⟩)] w fun e w' => e = .returned (.int .i64 0) ∧ ∃ a1 c1, LdA w' g m a1 an c1 cn { s with ep := s.ep + 1, mem := s.nxt } ∧ Out (fpL g m am an) w w' ∧ ∀ x, a1 = some x → w.heap.size ≤ x.block := by
  have H := hid h
  have HF : Hid (∀ u : World, LdA u g m am an cm cn s → Calls Tryz.prog 29 #[.pointer (some ⟨g, 0, none⟩)] u fun e w' => e = .returned (.bool true) ∧ Below u.heap.size u w') := hid (fun u hu => by rw [← hF]; exact gfull_any hu)
  have hn : ¬ ((s.ep : Int) = 60) := by omega
  have hw1 : IntKind.i64.wrap ((s.ep : Int) + 1) = (s.ep : Int) + 1 := by have h2 := h.ok.ep; simp [IntKind.wrap, IntKind.bits, IntKind.signed]; omega
  have HK : Hid (LOk { s with ep := s.ep + 1, mem := s.nxt } ∧ s.nxt.length * 8 ≤ 140737488355328) := hid ⟨by
    have := turnS_ok h.ok
    have hE : turnE s = 0 := by rw [turnE, hF, if_neg (by simp), if_neg he]
    rw [turnS, if_pos hE] at this
    exact this, by have := h.pos; omega⟩
  clear h hF he
  go_enter Tryz.func15, Tryz.ntmps15
  go_wp2_with (first
    | (go_at_call 29; refine (HF.out _ H.out).mono ?_; rintro e w2 ⟨rfl, hbb⟩; have H2 : Hid (TuSt (fpL g m am an) w w2 g m am an cm cn s) := hid ⟨H.out.keep hbb, Out.of_below hbb⟩; clear hbb; have c0 := H2.out.ld.c0)
    | (go_at_call 52; refine (gisNone_any H.out).mono ?_; rintro e w1 ⟨rfl, hw⟩; replace hw := hw.symm; subst hw))
  clear c0 hn
  have H3 := hid (H2.out.keep (Below.refl _ _).drew)
  have HS : Hid (w2.drew.cell? ⟨g, 2, none⟩ = some (.slice an s.nxt.length cn)) := hid H3.out.ld.c2
  refine wp_region_held (S := fun ww => ww.cell? ⟨g, 2, none⟩ = some (.slice an s.nxt.length cn)) (by kernel_rfl) ?_
  try (change wpAnyH _ _ _ _ _ _ _ _ (World.drew _))
  refine wpAnyH_take (i := 0) (v := ?v1) rfl (by kernel_rfl) (by kernel_rfl) (by kernel_rfl) (fun _ _ _ h => h) (Or.inl ⟨by rfl, ?hy1⟩) HS.out ?rest1
  case hy1 => (intro ww _; go_simp; try with_reducible rfl)
  go_simp
  refine wpAnyH_take (i := 1) (v := ?v2) rfl (by kernel_rfl) (by kernel_rfl) (by kernel_rfl) (fun _ _ _ h => h) (Or.inl ⟨by rfl, ?hy2⟩) HS.out ?rest2
  case hy2 => (intro ww _; go_simp; try with_reducible rfl)
  go_simp
  refine wpAnyH_take (i := 2) (v := ?v3) rfl (by kernel_rfl) (by kernel_rfl) (by kernel_rfl) (fun _ _ _ h => h) (Or.inl ⟨by rfl, ?hy3⟩) HS.out ?rest3
  case hy3 => (intro ww _; go_simp; try with_reducible rfl)
  go_simp
  refine wpAnyH_take (i := 3) (v := ?v4) rfl (by kernel_rfl) (by kernel_rfl) (by kernel_rfl) (fun _ _ _ h => h) (Or.inl ⟨by rfl, ?hy4⟩) HS.out ?rest4
  case hy4 => (intro ww _; go_simp; try with_reducible rfl)
  go_simp
  refine wpAnyH_take (i := 4) (v := ?v5) rfl (by kernel_rfl) (by kernel_rfl) (by kernel_rfl) (fun _ _ _ h => h) (Or.inl ⟨by rfl, ?hy5⟩) HS.out ?rest5
  case hy5 => (intro ww _; go_simp; try with_reducible rfl)
  go_simp
  refine wpAnyH_take (i := 7) (v := ?v6) rfl (by kernel_rfl) (by kernel_rfl) (by kernel_rfl) (fun _ _ _ h => h) (Or.inl ⟨by rfl, ?hy6⟩) HS.out ?rest6
  case hy6 => (intro ww _; go_simp; try with_reducible rfl)
  go_simp
  refine wpAnyH_take (i := 8) (v := ?v7) rfl (by kernel_rfl) (by kernel_rfl) (by kernel_rfl) (fun _ _ _ h => h) (Or.inl ⟨by rfl, ?hy7⟩) HS.out ?rest7
  case hy7 => (intro ww _; go_simp; try with_reducible rfl)
  go_simp
  refine wpAnyH_take (i := 9) (v := ?v8) rfl (by kernel_rfl) (by kernel_rfl) (by kernel_rfl) (fun _ _ _ h => h) (Or.inl ⟨by rfl, ?hy8⟩) HS.out ?rest8
  case hy8 => (intro ww _; go_simp; try with_reducible rfl)
  go_simp
  refine wpAnyH_take (i := 10) (v := ?v9) rfl (by kernel_rfl) (by kernel_rfl) (by kernel_rfl) (fun _ _ _ h => h) (Or.inl ⟨by rfl, ?hy9⟩) HS.out ?rest9
  case hy9 => (intro ww hS; have y2 : ww.cell? ⟨g, 2, none⟩ = some (.slice an s.nxt.length cn) := hS; go_simp; try with_reducible rfl)
  go_simp
  refine wpAnyH_all (rs := [5, 11]) (by kernel_rfl) (by simp) ?_
  intro i hi
  rcases List.mem_cons.1 hi with rfl | hi
  · clear hi
    refine wpOp_d rfl (by rfl) (fun K hK => ?_)
    have c0 := H3.out.ld.c0
    go_simp
    refine hK _ _ ⟨H3.out.ld.c2, ?_⟩
    clear hK K c0
    go_simp
    refine wpAnyH_take (i := 6) (v := ?v10) rfl (by kernel_rfl) (by kernel_rfl) (by kernel_rfl) (fun _ _ _ h => h) (Or.inl ⟨by rfl, ?hy10⟩) HS.out ?rest10
    case hy10 => (intro ww _; go_simp; try with_reducible rfl)
    go_simp
    refine wpAnyH_all (rs := [11]) (by kernel_rfl) (by simp) ?_
    intro i hi
    obtain rfl := List.mem_singleton.1 hi
    clear hi
    refine wpOp_d rfl (by rfl) (fun K hK => ?_)
    go_simp
    refine (cloneInts_any an s.nxt.length cn s.nxt rfl HK.out.2 _ H3.out.ld.ix).mono ?_
    rintro e w4 ⟨a1, c1, rfl, hN, hbb⟩
    have H4 := hid (H3.out.keep hbb)
    have HN := hid hN
    clear hN hbb
    refine hK _ _ ⟨H4.out.ld.c2, ?_⟩
    clear hK K
    go_simp
    refine wpAnyH_take (i := 12) (v := ?v11) rfl (by kernel_rfl) (by kernel_rfl) (by kernel_rfl) (fun _ _ _ h => h) (Or.inl ⟨by rfl, ?hy11⟩) H4.out.ld.c2 ?rest11
    case hy11 => (intro ww _; go_simp; try with_reducible rfl)
    go_simp
    refine wpAnyH_take (i := 13) (v := ?v12) rfl (by kernel_rfl) (by kernel_rfl) (by kernel_rfl) (fun _ _ _ h => h) (Or.inl ⟨by rfl, ?hy12⟩) H4.out.ld.c2 ?rest12
    case hy12 => (intro ww _; go_simp; try with_reducible rfl)
    go_simp
    refine wpAnyH_take (i := 14) (v := ?v13) rfl (by kernel_rfl) (by kernel_rfl) (by kernel_rfl) (fun _ _ _ h => h) (Or.inl ⟨by rfl, ?hy13⟩) H4.out.ld.c2 ?rest13
    case hy13 => (intro ww _; go_simp; try with_reducible rfl)
    go_simp
    refine wpAnyH_all (rs := [15]) (by kernel_rfl) (by simp) ?_
    intro i hi
    obtain rfl := List.mem_singleton.1 hi
    clear hi
    refine wpOp_d rfl (by rfl) (fun K hK => ?_)
    have c0 := H4.out.ld.c0
    have c1x := H4.out.ld.c1
    have f0 := H4.out.ld.fr 0
    have f1 := H4.out.ld.fr 1
    go_simp
    obtain ⟨w5, e5⟩ : ∃ u, u = (w4.setCell ⟨g, 0, none⟩ (.int .i64 ((s.ep : Int) + 1))).setCell ⟨g, 1, none⟩ (.slice a1 s.nxt.length c1) := ⟨_, rfl⟩
    have hone : One g w4 w5 := e5 ▸ one_two w4 g _ _
    have hblk : w5.heap[g]? = some (.cells (ldC (((s.ep + 1 : Nat)) : Int) (.slice a1 s.nxt.length c1) (.slice an s.nxt.length cn) (s.dn : Int) (.map (some m)) s.lst).toArray 72 (0, 0)) := by
      rw [e5]
      exact (blk_set (blk_set H4.out.ld.blk 0 _) 1 _).trans (by simp [ldC])
    have H5 : Hid (LdA w5 g m a1 an c1 cn { s with ep := s.ep + 1, mem := s.nxt } ∧ Out (fpL g m am an) w w5) := hid ⟨H4.out.ld.setg hone hblk HN.out.ints H4.out.ld.ix (fun x hx => ⟨far_new H3.out.ld (Nat.le_refl _) (HN.out.far x hx).1, (HN.out.far x hx).2.lt⟩) H4.out.ld.na rfl HK.out.1, hone.outB H4.out.out (.inl fp_gm.1)⟩
    rw [← e5]
    clear e5 hone hblk c0 c1x f0 f1
    refine hK _ _ ⟨H5.out.1.c2, ?_⟩
    clear hK K
    go_simp
    refine wpAnyH_done (by kernel_rfl) ?_ _
    go_simp
    go_wp2
    go_ret
    exact ⟨rfl, a1, c1, H5.out.1, H5.out.2, fun x hx => Nat.le_trans H3.out.out.size (HN.out.far x hx).1⟩
  · obtain rfl := List.mem_singleton.1 hi
    clear hi
    refine wpOp_d rfl (by rfl) (fun K hK => ?_)
    go_simp
    refine (cloneInts_any an s.nxt.length cn s.nxt rfl HK.out.2 _ H3.out.ld.ix).mono ?_
    rintro e w4 ⟨a1, c1, rfl, hN, hbb⟩
    have H4 := hid (H3.out.keep hbb)
    have HN := hid hN
    clear hN hbb
    refine hK _ _ ⟨H4.out.ld.c2, ?_⟩
    clear hK K
    go_simp
    refine wpAnyH_all (rs := [5]) (by kernel_rfl) (by simp) ?_
    intro i hi
    obtain rfl := List.mem_singleton.1 hi
    clear hi
    refine wpOp_d rfl (by rfl) (fun K hK => ?_)
    have c0 := H4.out.ld.c0
    go_simp
    refine hK _ _ ⟨H4.out.ld.c2, ?_⟩
    clear hK K c0
    go_simp
    refine wpAnyH_take (i := 6) (v := ?v14) rfl (by kernel_rfl) (by kernel_rfl) (by kernel_rfl) (fun _ _ _ h => h) (Or.inl ⟨by rfl, ?hy14⟩) H4.out.ld.c2 ?rest14
    case hy14 => (intro ww _; go_simp; try with_reducible rfl)
    go_simp
    refine wpAnyH_take (i := 12) (v := ?v15) rfl (by kernel_rfl) (by kernel_rfl) (by kernel_rfl) (fun _ _ _ h => h) (Or.inl ⟨by rfl, ?hy15⟩) H4.out.ld.c2 ?rest15
    case hy15 => (intro ww _; go_simp; try with_reducible rfl)
    go_simp
    refine wpAnyH_take (i := 13) (v := ?v16) rfl (by kernel_rfl) (by kernel_rfl) (by kernel_rfl) (fun _ _ _ h => h) (Or.inl ⟨by rfl, ?hy16⟩) H4.out.ld.c2 ?rest16
    case hy16 => (intro ww _; go_simp; try with_reducible rfl)
    go_simp
    refine wpAnyH_take (i := 14) (v := ?v17) rfl (by kernel_rfl) (by kernel_rfl) (by kernel_rfl) (fun _ _ _ h => h) (Or.inl ⟨by rfl, ?hy17⟩) H4.out.ld.c2 ?rest17
    case hy17 => (intro ww _; go_simp; try with_reducible rfl)
    go_simp
    refine wpAnyH_all (rs := [15]) (by kernel_rfl) (by simp) ?_
    intro i hi
    obtain rfl := List.mem_singleton.1 hi
    clear hi
    refine wpOp_d rfl (by rfl) (fun K hK => ?_)
    have c0 := H4.out.ld.c0
    have c1x := H4.out.ld.c1
    have f0 := H4.out.ld.fr 0
    have f1 := H4.out.ld.fr 1
    go_simp
    obtain ⟨w5, e5⟩ : ∃ u, u = (w4.setCell ⟨g, 0, none⟩ (.int .i64 ((s.ep : Int) + 1))).setCell ⟨g, 1, none⟩ (.slice a1 s.nxt.length c1) := ⟨_, rfl⟩
    have hone : One g w4 w5 := e5 ▸ one_two w4 g _ _
    have hblk : w5.heap[g]? = some (.cells (ldC (((s.ep + 1 : Nat)) : Int) (.slice a1 s.nxt.length c1) (.slice an s.nxt.length cn) (s.dn : Int) (.map (some m)) s.lst).toArray 72 (0, 0)) := by
      rw [e5]
      exact (blk_set (blk_set H4.out.ld.blk 0 _) 1 _).trans (by simp [ldC])
    have H5 : Hid (LdA w5 g m a1 an c1 cn { s with ep := s.ep + 1, mem := s.nxt } ∧ Out (fpL g m am an) w w5) := hid ⟨H4.out.ld.setg hone hblk HN.out.ints H4.out.ld.ix (fun x hx => ⟨far_new H3.out.ld (Nat.le_refl _) (HN.out.far x hx).1, (HN.out.far x hx).2.lt⟩) H4.out.ld.na rfl HK.out.1, hone.outB H4.out.out (.inl fp_gm.1)⟩
    rw [← e5]
    clear e5 hone hblk c0 c1x f0 f1
    refine hK _ _ ⟨H5.out.1.c2, ?_⟩
    clear hK K
    go_simp
    refine wpAnyH_done (by kernel_rfl) ?_ _
    go_simp
    go_wp2
    go_ret
    exact ⟨rfl, a1, c1, H5.out.1, H5.out.2, fun x hx => Nat.le_trans H3.out.out.size (HN.out.far x hx).1⟩
theorem gturn_any {F : List Nat} {w : World} {v : Value} {s : Ls} (h : LdAt F w v s) :
    Calls Tryz.prog 15 #[v] w fun e w' => e = .returned (.int .i64 (turnE s)) ∧ LdTo F w w' v (turnS s) := by
  obtain ⟨g, m, am, an, cm, cn, rfl, rfl, h⟩ := h
  cases hF : fullS s with
  | false =>
    have hE : turnE s = 18 := by rw [turnE, hF]; rfl
    rw [turnS, hE]
    exact (gturn_not h hF).mono fun _ _ ⟨he, h1, h2⟩ => ⟨he, _, h1.at, fun b hb => .inl hb, h2⟩
  | true =>
    by_cases h60 : s.ep = 60
    · have hE : turnE s = 3 := by rw [turnE, hF, if_neg (by simp), if_pos h60]
      rw [turnS, hE]
      exact (gturn_last h hF h60).mono fun _ _ ⟨he, h1, h2⟩ => ⟨he, _, h1.at, fun b hb => .inl hb, h2⟩
    · have hE : turnE s = 0 := by rw [turnE, hF, if_neg (by simp), if_neg h60]
      rw [turnS, hE]
      refine (gturn_yes h hF h60).mono fun _ _ ⟨he, a1, c1, h1, h2, h3⟩ => ⟨he, _, h1.at, fun b hb => ?_, h2⟩
      rcases mem_fp.1 hb with e | e | ⟨x, hx, e⟩ | ⟨x, hx, e⟩
      · exact .inl (mem_fp.2 (.inl e))
      · exact .inl (mem_fp.2 (.inr (.inl e)))
      · exact .inr (by rw [e]; exact h3 x hx)
      · exact .inl (mem_fp.2 (.inr (.inr (.inr ⟨x, hx, e⟩))))
end Go.Proofs.YtecidbdbdnnglaaGreat

/- The program's ledger: New, Copy. -/
namespace Go.Proofs.YtecidbdbdnnglaaGreat
open Go.RowKit

theorem KmAt.below {w w' : World} {m : Nat} {L : List Kb} (h : KmAt w m L) (hb : Below w.heap.size w w') : KmAt w' m L := h.keep (hb.block m h.lt)
theorem free_km {w : World} {k m : Nat} {L : List Kb} (hf : Free w k) (h : KmAt w m L) : k ≠ m := fun e => by
  obtain ⟨cs, T, h1⟩ := hf
  obtain ⟨es, clock, h2, _⟩ := h
  rw [e, h2] at h1
  cases h1
/-- A ledger made of new things. -/
theorem ld_make {B : Nat} {w : World} {a1 a2 : Option Addr} {c1 c2 m : Nat} {s : Ls} (h1 : NewI B w a1 s.mem) (h2 : NewI B w a2 s.nxt) (hm : KmAt w m s.its) (hB : B ≤ m) (hBw : B ≤ w.heap.size) (hok : LOk s) :
    ∃ F, LdAt F (w.alloc (.cells (ldC (s.ep : Int) (.slice a1 s.mem.length c1) (.slice a2 s.nxt.length c2) (s.dn : Int) (.map (some m)) s.lst).toArray 72)) (.pointer (some ⟨w.heap.size, 0, none⟩)) s ∧ ∀ b, b ∈ F → B ≤ b := by
  have hb := (Below.refl w.heap.size w).alloc (Nat.le_refl _) (.cells (ldC (s.ep : Int) (.slice a1 s.mem.length c1) (.slice a2 s.nxt.length c2) (s.dn : Int) (.map (some m)) s.lst).toArray 72)
  refine ⟨fpL w.heap.size m a1 a2, ⟨w.heap.size, m, a1, a2, c1, c2, rfl, rfl, heap_alloc_last w _, h1.ints.keep hb (Nat.le_refl _), h2.ints.keep hb (Nat.le_refl _), hm.below hb, Nat.ne_of_gt hm.lt, fun x hx => ?_, fun x hx => ?_, hok⟩, fun b hbm => ?_⟩
  · have hl := (h1.far x hx).2.lt
    exact ⟨⟨Nat.ne_of_lt hl, free_km (h1.far x hx).2 hm⟩, Nat.lt_of_lt_of_le hl hb.size⟩
  · have hl := (h2.far x hx).2.lt
    exact ⟨⟨Nat.ne_of_lt hl, free_km (h2.far x hx).2 hm⟩, Nat.lt_of_lt_of_le hl hb.size⟩
  · rcases mem_fp.1 hbm with e | e | ⟨x, hx, e⟩ | ⟨x, hx, e⟩
    · omega
    · omega
    · rw [e]; exact (h1.far x hx).1
    · rw [e]; exact (h2.far x hx).1
set_option maxRecDepth 100000 in
set_option maxHeartbeats 3200000 in
theorem gnew_no (e : Int) (a : Option Addr) (n cap : Nat) (l : List Int) (hn : l.length = n) (hm : n ≤ maxLen) (w : World) (hI : IntsIn w a l) (hr : rightC e l = false ∨ e ≠ 0) :
    Calls Tryz.prog 7 #[.agg #[.int .i64 e, .slice a n cap]] w fun r w' => r = .returned (.tuple #[.pointer none, .int .i64 1]) ∧ Below w.heap.size w w' := by
  have hax := (Below.refl w.heap.size w).alloc (Nat.le_refl _) (.cells #[.int .i64 e, .slice a n cap] 24)
  have H0 : Hid (GfAt (w.alloc (.cells #[.int .i64 e, .slice a n cap] 24)) w.heap.size e (.slice a n cap) ∧ Below w.heap.size w (w.alloc (.cells #[.int .i64 e, .slice a n cap] 24))) := hid ⟨heap_alloc_last w _, hax⟩
  obtain ⟨d0, d1⟩ := H0.out.1.cells
  have HI := hid (hI.keep hax (Nat.le_refl _))
  have HM := hid (And.intro hn hm)
  cases hR : rightC e l with
  | false =>
    have HR : Hid (∀ u : World, IntsIn u a l → Calls Tryz.prog 20 #[.agg #[.int .i64 e, .slice a n cap]] u fun r w' => r = .returned (.bool false) ∧ Below u.heap.size u w') := hid (fun u hu => by rw [← hR]; exact cright_any e a n cap l HM.out.1 HM.out.2 u hu)
    clear hax hI hn hm hr hR
    go_enter Tryz.func7, Tryz.ntmps7
    go_wp2_with (go_at_call 20; refine (HR.out _ HI.out).mono ?_; rintro r w2 ⟨rfl, hbb⟩; have H2 := hid (And.intro (H0.out.1.keep hbb) (H0.out.2.trans (hbb.mono (by simp)))); clear hbb d0 d1; obtain ⟨d0, d1⟩ := H2.out.1.cells)
    go_ret2
    exact ⟨rfl, H2.out.2⟩
  | true =>
    have he : ¬ (e = 0) := by
      rcases hr with h | h
      · rw [hR] at h; cases h
      · exact h
    have HR : Hid (∀ u : World, IntsIn u a l → Calls Tryz.prog 20 #[.agg #[.int .i64 e, .slice a n cap]] u fun r w' => r = .returned (.bool true) ∧ Below u.heap.size u w') := hid (fun u hu => by rw [← hR]; exact cright_any e a n cap l HM.out.1 HM.out.2 u hu)
    clear hax hI hn hm hr hR
    go_enter Tryz.func7, Tryz.ntmps7
    go_wp2_with (go_at_call 20; refine (HR.out _ HI.out).mono ?_; rintro r w2 ⟨rfl, hbb⟩; have H2 := hid (And.intro (H0.out.1.keep hbb) (H0.out.2.trans (hbb.mono (by simp)))); clear hbb d0 d1; obtain ⟨d0, d1⟩ := H2.out.1.cells)
    go_ret2
    exact ⟨rfl, H2.out.2⟩
/-- While a ledger is made: the configuration's variable; nothing that was there has turned. -/
structure NwSt (w0 w : World) (a : Option Addr) (n cap : Nat) (l : List Int) : Prop where
  cf : GfAt w w0.heap.size 0 (.slice a n cap)
  bel : Below w0.heap.size w0 w
  ints : IntsIn w a l
theorem NwSt.keep {w0 w w' : World} {a : Option Addr} {n cap : Nat} {l : List Int} (h : NwSt w0 w a n cap l) (hb : Below w.heap.size w w') : NwSt w0 w' a n cap l := ⟨h.cf.keep hb, h.bel.trans (hb.mono h.bel.size), h.ints.keep hb (Nat.le_refl _)⟩
set_option maxRecDepth 100000 in
set_option maxHeartbeats 12800000 in
theorem gnew_yes (a : Option Addr) (n cap : Nat) (l : List Int) (hn : l.length = n) (w : World) (hI : IntsIn w a l) (hr : rightC 0 l = true) :
    Calls Tryz.prog 7 #[.agg #[.int .i64 0, .slice a n cap]] w fun r w' => ∃ v F, r = .returned (.tuple #[v, .int .i64 0]) ∧ LdAt F w' v (newS l) ∧ (∀ b, b ∈ F → w.heap.size ≤ b) ∧ Below w.heap.size w w' := by
  have hax := (Below.refl w.heap.size w).alloc (Nat.le_refl _) (.cells #[.int .i64 0, .slice a n cap] 24)
  have H0 : Hid (NwSt w (w.alloc (.cells #[.int .i64 0, .slice a n cap] 24)) a n cap l) := hid ⟨heap_alloc_last w _, hax, hI.keep hax (Nat.le_refl _)⟩
  obtain ⟨d0, d1⟩ := H0.out.cf.cells
  have hl := mem_len (rightC_ep hr).2
  have HM : Hid (l.length = n ∧ n ≤ maxLen ∧ n * 8 ≤ 140737488355328 ∧ LOk (newS l)) := hid ⟨hn, by unfold maxLen; omega, by omega, newS_ok hr⟩
  have HR : Hid (∀ u : World, IntsIn u a l → Calls Tryz.prog 20 #[.agg #[.int .i64 0, .slice a n cap]] u fun r w' => r = .returned (.bool true) ∧ Below u.heap.size u w') := hid (fun u hu => by rw [← hr]; exact cright_any 0 a n cap l HM.out.1 HM.out.2.1 u hu)
  have hmm := @run_makeMap Tryz.prog
  clear hax hI hn hr hl
  go_enter Tryz.func7, Tryz.ntmps7
  go_wp2_with (go_at_call 20; refine (HR.out _ H0.out.ints).mono ?_; rintro r w2 ⟨rfl, hbb⟩; have H2 := hid (H0.out.keep hbb); clear hbb d0 d1; obtain ⟨d0, d1⟩ := H2.out.cf.cells)
  clear d0 d1
  have H3 := hid (H2.out.keep (Below.refl _ _).drew)
  have HS := hid H3.out.cf
  refine wp_region_held (S := fun ww => GfAt ww w.heap.size 0 (.slice a n cap)) (by kernel_rfl) ?_
  try (change wpAnyH _ _ _ _ _ _ _ _ (World.drew _))
  obtain ⟨w3, e3⟩ : ∃ u, u = w2.drew := ⟨_, rfl⟩
  rw [← e3] at H3 HS
  try rw [← e3]
  clear e3
  refine wpAnyH_take (i := 0) (v := ?v1) rfl (by kernel_rfl) (by kernel_rfl) (by kernel_rfl) (fun _ _ _ h => h) (Or.inl ⟨by rfl, ?hy1⟩) HS.out ?rest1
  case hy1 => (intro ww hS; obtain ⟨y0, y1⟩ := hS.cells; go_simp; try with_reducible rfl)
  go_simp
  refine wpAnyH_take (i := 2) (v := ?v2) rfl (by kernel_rfl) (by kernel_rfl) (by kernel_rfl) (fun _ _ _ h => h) (Or.inl ⟨by rfl, ?hy2⟩) HS.out ?rest2
  case hy2 => (intro ww _; go_simp; try with_reducible rfl)
  go_simp
  refine wpAnyH_take (i := 3) (v := ?v3) rfl (by kernel_rfl) (by kernel_rfl) (by kernel_rfl) (fun _ _ _ h => h) (Or.inl ⟨by rfl, ?hy3⟩) HS.out ?rest3
  case hy3 => (intro ww hS; obtain ⟨y0, y1⟩ := hS.cells; go_simp; try with_reducible rfl)
  go_simp
  refine wpAnyH_all (rs := [1, 5]) (by kernel_rfl) (by simp) ?_
  intro i hi
  rcases List.mem_cons.1 hi with rfl | hi
  · clear hi
    refine wpOp_d rfl (by rfl) (fun K hK => ?_)
    go_simp
    refine (gcopyConf_any 0 a n cap l HM.out.1 HM.out.2.2.1 _ H3.out.ints).mono ?_
    rintro r w4 ⟨a1, c1, rfl, hN, hbb⟩
    have H4 := hid (H3.out.keep hbb)
    have HB4 := hid hbb
    have HN1 := hid (hN.lowB H3.out.bel.size)
    clear hN hbb
    refine hK _ _ ⟨H4.out.cf, ?_⟩
    clear hK K
    go_simp
    refine wpAnyH_all (rs := [4, 5]) (by kernel_rfl) (by simp) ?_
    intro i hi
    rcases List.mem_cons.1 hi with rfl | hi
    · clear hi
      refine wpOp_d rfl (by rfl) (fun K hK => ?_)
      go_simp
      refine (cloneInts_any a n cap l HM.out.1 HM.out.2.2.1 _ H4.out.ints).mono ?_
      rintro r w5 ⟨a2, c2, rfl, hN, hbb⟩
      have H5 := hid (H4.out.keep hbb)
      have HB5 := hid hbb
      have HN4 := hid (hN.lowB H4.out.bel.size)
      clear hN hbb
      refine hK _ _ ⟨H5.out.cf, ?_⟩
      clear hK K
      go_simp
      refine wpAnyH_all (rs := [5]) (by kernel_rfl) (by simp) ?_
      intro i hi
      obtain rfl := List.mem_singleton.1 hi
      clear hi
      refine wpOp_d rfl (by rfl) (fun K hK => ?_)
      go_simp
      obtain ⟨w6, e6⟩ : ∃ u, u = w5.alloc (.map #[] 0) := ⟨_, rfl⟩
      have HB6 : Hid (Below w5.heap.size w5 w6 ∧ KmAt w6 w5.heap.size []) := hid (by rw [e6]; exact ⟨(Below.refl _ _).alloc (Nat.le_refl _) _, KmAt.made _⟩)
      have H6 := hid (H5.out.keep HB6.out.1)
      rw [← e6]
      clear e6
      refine hK _ _ ⟨H6.out.cf, ?_⟩
      clear hK K
      go_simp
      refine wpAnyH_take (i := 6) (v := ?v4) rfl (by kernel_rfl) (by kernel_rfl) (by kernel_rfl) (fun _ _ _ h => h) (Or.inl ⟨by rfl, ?hy4⟩) H6.out.cf ?rest4
      case hy4 => (intro ww _; go_simp; try with_reducible rfl)
      go_simp
      refine wpAnyH_all (rs := [7]) (by kernel_rfl) (by simp) ?_
      intro i hi
      obtain rfl := List.mem_singleton.1 hi
      clear hi
      refine wpOp_d rfl (by rfl) (fun K hK => ?_)
      go_simp
      obtain ⟨w7, e7⟩ : ∃ u, u = w6.alloc (.cells (ldC 0 (.slice a1 n c1) (.slice a2 n c2) 0 (.map (some w5.heap.size)) (List.replicate 8 (0, 0, 0))).toArray 72) := ⟨_, rfl⟩
      have H7 : Hid (GfAt w7 w.heap.size 0 (.slice a n cap) ∧ Below w.heap.size w w7 ∧ ∃ F, LdAt F w7 (.pointer (some ⟨w6.heap.size, 0, none⟩)) (newS l) ∧ ∀ b, b ∈ F → w.heap.size ≤ b) := hid (by
        have hb := (Below.refl w6.heap.size w6).alloc (Nat.le_refl _) (.cells (ldC 0 (.slice a1 n c1) (.slice a2 n c2) 0 (.map (some w5.heap.size)) (List.replicate 8 (0, 0, 0))).toArray 72)
        rw [e7]
        refine ⟨H6.out.cf.keep hb, H6.out.bel.trans (hb.mono H6.out.bel.size), ?_⟩
        have hmk := ld_make (s := newS l) (c1 := c1) (c2 := c2) ((HN1.out.keep HB5.out).keep HB6.out.1) (HN4.out.keep HB6.out.1) HB6.out.2 H5.out.bel.size H6.out.bel.size HM.out.2.2.2
        have hln : (newS l).mem.length = n ∧ (newS l).nxt.length = n := ⟨HM.out.1, HM.out.1⟩
        rw [hln.1, hln.2] at hmk
        exact hmk)
      have ecell : ∀ Z, Z = w7 → Z = w7 := fun _ h => h
      first
        | rw [← e7]
        | (change K _ (w6.alloc (.cells (ldC 0 (.slice a1 n c1) (.slice a2 n c2) 0 (.map (some w5.heap.size)) (List.replicate 8 (0, 0, 0))).toArray 72)); rw [← e7])
      clear e7 ecell
      refine hK _ _ ⟨H7.out.1, ?_⟩
      clear hK K
      go_simp
      refine wpAnyH_take (i := 8) (v := ?v5) rfl (by kernel_rfl) (by kernel_rfl) (by kernel_rfl) (fun _ _ _ h => h) (Or.inl ⟨by rfl, ?hy5⟩) H7.out.1 ?rest5
      case hy5 => (intro ww _; go_simp; try with_reducible rfl)
      go_simp
      refine wpAnyH_take (i := 9) (v := ?v6) rfl (by kernel_rfl) (by kernel_rfl) (by kernel_rfl) (fun _ _ _ h => h) (Or.inl ⟨by rfl, ?hy6⟩) H7.out.1 ?rest6
      case hy6 => (intro ww _; go_simp; try with_reducible rfl)
      go_simp
      refine wpAnyH_done (by kernel_rfl) ?_ _
      go_simp
      go_wp2
      obtain ⟨F, hF⟩ := H7.out.2.2
      go_ret2
      exact ⟨_, F, rfl, hF.1, hF.2, H7.out.2.1⟩
    obtain rfl := List.mem_singleton.1 hi
    clear hi
    refine wpOp_d rfl (by rfl) (fun K hK => ?_)
    go_simp
    obtain ⟨w5, e5⟩ : ∃ u, u = w4.alloc (.map #[] 0) := ⟨_, rfl⟩
    have HB5 : Hid (Below w4.heap.size w4 w5 ∧ KmAt w5 w4.heap.size []) := hid (by rw [e5]; exact ⟨(Below.refl _ _).alloc (Nat.le_refl _) _, KmAt.made _⟩)
    have H5 := hid (H4.out.keep HB5.out.1)
    rw [← e5]
    clear e5
    refine hK _ _ ⟨H5.out.cf, ?_⟩
    clear hK K
    go_simp
    refine wpAnyH_all (rs := [4]) (by kernel_rfl) (by simp) ?_
    intro i hi
    obtain rfl := List.mem_singleton.1 hi
    clear hi
    refine wpOp_d rfl (by rfl) (fun K hK => ?_)
    go_simp
    refine (cloneInts_any a n cap l HM.out.1 HM.out.2.2.1 _ H5.out.ints).mono ?_
    rintro r w6 ⟨a2, c2, rfl, hN, hbb⟩
    have H6 := hid (H5.out.keep hbb)
    have HB6 := hid hbb
    have HN4 := hid (hN.lowB H5.out.bel.size)
    clear hN hbb
    refine hK _ _ ⟨H6.out.cf, ?_⟩
    clear hK K
    go_simp
    refine wpAnyH_take (i := 6) (v := ?v7) rfl (by kernel_rfl) (by kernel_rfl) (by kernel_rfl) (fun _ _ _ h => h) (Or.inl ⟨by rfl, ?hy7⟩) H6.out.cf ?rest7
    case hy7 => (intro ww _; go_simp; try with_reducible rfl)
    go_simp
    refine wpAnyH_all (rs := [7]) (by kernel_rfl) (by simp) ?_
    intro i hi
    obtain rfl := List.mem_singleton.1 hi
    clear hi
    refine wpOp_d rfl (by rfl) (fun K hK => ?_)
    go_simp
    obtain ⟨w7, e7⟩ : ∃ u, u = w6.alloc (.cells (ldC 0 (.slice a1 n c1) (.slice a2 n c2) 0 (.map (some w4.heap.size)) (List.replicate 8 (0, 0, 0))).toArray 72) := ⟨_, rfl⟩
    have H7 : Hid (GfAt w7 w.heap.size 0 (.slice a n cap) ∧ Below w.heap.size w w7 ∧ ∃ F, LdAt F w7 (.pointer (some ⟨w6.heap.size, 0, none⟩)) (newS l) ∧ ∀ b, b ∈ F → w.heap.size ≤ b) := hid (by
      have hb := (Below.refl w6.heap.size w6).alloc (Nat.le_refl _) (.cells (ldC 0 (.slice a1 n c1) (.slice a2 n c2) 0 (.map (some w4.heap.size)) (List.replicate 8 (0, 0, 0))).toArray 72)
      rw [e7]
      refine ⟨H6.out.cf.keep hb, H6.out.bel.trans (hb.mono H6.out.bel.size), ?_⟩
      have hmk := ld_make (s := newS l) (c1 := c1) (c2 := c2) ((HN1.out.keep HB5.out.1).keep HB6.out) HN4.out (HB5.out.2.below HB6.out) H4.out.bel.size H6.out.bel.size HM.out.2.2.2
      have hln : (newS l).mem.length = n ∧ (newS l).nxt.length = n := ⟨HM.out.1, HM.out.1⟩
      rw [hln.1, hln.2] at hmk
      exact hmk)
    have ecell : ∀ Z, Z = w7 → Z = w7 := fun _ h => h
    first
      | rw [← e7]
      | (change K _ (w6.alloc (.cells (ldC 0 (.slice a1 n c1) (.slice a2 n c2) 0 (.map (some w4.heap.size)) (List.replicate 8 (0, 0, 0))).toArray 72)); rw [← e7])
    clear e7 ecell
    refine hK _ _ ⟨H7.out.1, ?_⟩
    clear hK K
    go_simp
    refine wpAnyH_take (i := 8) (v := ?v8) rfl (by kernel_rfl) (by kernel_rfl) (by kernel_rfl) (fun _ _ _ h => h) (Or.inl ⟨by rfl, ?hy8⟩) H7.out.1 ?rest8
    case hy8 => (intro ww _; go_simp; try with_reducible rfl)
    go_simp
    refine wpAnyH_take (i := 9) (v := ?v9) rfl (by kernel_rfl) (by kernel_rfl) (by kernel_rfl) (fun _ _ _ h => h) (Or.inl ⟨by rfl, ?hy9⟩) H7.out.1 ?rest9
    case hy9 => (intro ww _; go_simp; try with_reducible rfl)
    go_simp
    refine wpAnyH_done (by kernel_rfl) ?_ _
    go_simp
    go_wp2
    obtain ⟨F, hF⟩ := H7.out.2.2
    go_ret2
    exact ⟨_, F, rfl, hF.1, hF.2, H7.out.2.1⟩
  obtain rfl := List.mem_singleton.1 hi
  clear hi
  refine wpOp_d rfl (by rfl) (fun K hK => ?_)
  go_simp
  obtain ⟨w4, e4⟩ : ∃ u, u = w3.alloc (.map #[] 0) := ⟨_, rfl⟩
  have HB4 : Hid (Below w3.heap.size w3 w4 ∧ KmAt w4 w3.heap.size []) := hid (by rw [e4]; exact ⟨(Below.refl _ _).alloc (Nat.le_refl _) _, KmAt.made _⟩)
  have H4 := hid (H3.out.keep HB4.out.1)
  rw [← e4]
  clear e4
  refine hK _ _ ⟨H4.out.cf, ?_⟩
  clear hK K
  go_simp
  refine wpAnyH_all (rs := [1]) (by kernel_rfl) (by simp) ?_
  intro i hi
  obtain rfl := List.mem_singleton.1 hi
  clear hi
  refine wpOp_d rfl (by rfl) (fun K hK => ?_)
  go_simp
  refine (gcopyConf_any 0 a n cap l HM.out.1 HM.out.2.2.1 _ H4.out.ints).mono ?_
  rintro r w5 ⟨a1, c1, rfl, hN, hbb⟩
  have H5 := hid (H4.out.keep hbb)
  have HB5 := hid hbb
  have HN1 := hid (hN.lowB H4.out.bel.size)
  clear hN hbb
  refine hK _ _ ⟨H5.out.cf, ?_⟩
  clear hK K
  go_simp
  refine wpAnyH_all (rs := [4]) (by kernel_rfl) (by simp) ?_
  intro i hi
  obtain rfl := List.mem_singleton.1 hi
  clear hi
  refine wpOp_d rfl (by rfl) (fun K hK => ?_)
  go_simp
  refine (cloneInts_any a n cap l HM.out.1 HM.out.2.2.1 _ H5.out.ints).mono ?_
  rintro r w6 ⟨a2, c2, rfl, hN, hbb⟩
  have H6 := hid (H5.out.keep hbb)
  have HB6 := hid hbb
  have HN4 := hid (hN.lowB H5.out.bel.size)
  clear hN hbb
  refine hK _ _ ⟨H6.out.cf, ?_⟩
  clear hK K
  go_simp
  refine wpAnyH_take (i := 6) (v := ?v10) rfl (by kernel_rfl) (by kernel_rfl) (by kernel_rfl) (fun _ _ _ h => h) (Or.inl ⟨by rfl, ?hy10⟩) H6.out.cf ?rest10
  case hy10 => (intro ww _; go_simp; try with_reducible rfl)
  go_simp
  refine wpAnyH_all (rs := [7]) (by kernel_rfl) (by simp) ?_
  intro i hi
  obtain rfl := List.mem_singleton.1 hi
  clear hi
  refine wpOp_d rfl (by rfl) (fun K hK => ?_)
  go_simp
  obtain ⟨w7, e7⟩ : ∃ u, u = w6.alloc (.cells (ldC 0 (.slice a1 n c1) (.slice a2 n c2) 0 (.map (some w3.heap.size)) (List.replicate 8 (0, 0, 0))).toArray 72) := ⟨_, rfl⟩
  have H7 : Hid (GfAt w7 w.heap.size 0 (.slice a n cap) ∧ Below w.heap.size w w7 ∧ ∃ F, LdAt F w7 (.pointer (some ⟨w6.heap.size, 0, none⟩)) (newS l) ∧ ∀ b, b ∈ F → w.heap.size ≤ b) := hid (by
    have hb := (Below.refl w6.heap.size w6).alloc (Nat.le_refl _) (.cells (ldC 0 (.slice a1 n c1) (.slice a2 n c2) 0 (.map (some w3.heap.size)) (List.replicate 8 (0, 0, 0))).toArray 72)
    rw [e7]
    refine ⟨H6.out.cf.keep hb, H6.out.bel.trans (hb.mono H6.out.bel.size), ?_⟩
    have hmk := ld_make (s := newS l) (c1 := c1) (c2 := c2) (HN1.out.keep HB6.out) HN4.out ((HB4.out.2.below HB5.out).below HB6.out) H3.out.bel.size H6.out.bel.size HM.out.2.2.2
    have hln : (newS l).mem.length = n ∧ (newS l).nxt.length = n := ⟨HM.out.1, HM.out.1⟩
    rw [hln.1, hln.2] at hmk
    exact hmk)
  have ecell : ∀ Z, Z = w7 → Z = w7 := fun _ h => h
  first
    | rw [← e7]
    | (change K _ (w6.alloc (.cells (ldC 0 (.slice a1 n c1) (.slice a2 n c2) 0 (.map (some w3.heap.size)) (List.replicate 8 (0, 0, 0))).toArray 72)); rw [← e7])
  clear e7 ecell
  refine hK _ _ ⟨H7.out.1, ?_⟩
  clear hK K
  go_simp
  refine wpAnyH_take (i := 8) (v := ?v11) rfl (by kernel_rfl) (by kernel_rfl) (by kernel_rfl) (fun _ _ _ h => h) (Or.inl ⟨by rfl, ?hy11⟩) H7.out.1 ?rest11
  case hy11 => (intro ww _; go_simp; try with_reducible rfl)
  go_simp
  refine wpAnyH_take (i := 9) (v := ?v12) rfl (by kernel_rfl) (by kernel_rfl) (by kernel_rfl) (fun _ _ _ h => h) (Or.inl ⟨by rfl, ?hy12⟩) H7.out.1 ?rest12
  case hy12 => (intro ww _; go_simp; try with_reducible rfl)
  go_simp
  refine wpAnyH_done (by kernel_rfl) ?_ _
  go_simp
  go_wp2
  obtain ⟨F, hF⟩ := H7.out.2.2
  go_ret2
  exact ⟨_, F, rfl, hF.1, hF.2, H7.out.2.1⟩
end Go.Proofs.YtecidbdbdnnglaaGreat

/- The program's ledger: Copy. -/
namespace Go.Proofs.YtecidbdbdnnglaaGreat
open Go.RowKit

theorem eight_of {l : List De} (h : l.length = 8) : ∃ d0 d1 d2 d3 d4 d5 d6 d7, l = [d0, d1, d2, d3, d4, d5, d6, d7] := by
  match l, h with
  | [d0, d1, d2, d3, d4, d5, d6, d7], _ => exact ⟨d0, d1, d2, d3, d4, d5, d6, d7, rfl⟩
/-- While a ledger is copied. -/
structure CoSt (w0 w : World) (g m : Nat) (am an : Option Addr) (cm cn : Nat) (s : Ls) : Prop where
  ld : LdA w g m am an cm cn s
  bel : Below w0.heap.size w0 w
theorem CoSt.keep {w0 w w' : World} {g m : Nat} {am an : Option Addr} {cm cn : Nat} {s : Ls} (h : CoSt w0 w g m am an cm cn s) (hb : Below w.heap.size w w') : CoSt w0 w' g m am an cm cn s := ⟨h.ld.keep hb, h.bel.trans (hb.mono h.bel.size)⟩
theorem LdA.deeds24 {w : World} {g m : Nat} {am an : Option Addr} {cm cn : Nat} {s : Ls} (h : LdA w g m am an cm cn s) : w.rangeAt g 5 (deC s.lst) := fun q v hv => by
  refine cell_at h.blk (5 + q) v ?_
  rw [show 5 + q = q + 1 + 1 + 1 + 1 + 1 by omega]
  simpa [ldC] using hv
set_option maxRecDepth 100000 in
theorem built_eight (ep dn : Int) (a1 a2 : Option Addr) (n1 c1 n2 c2 m : Nat) (d0 d1 d2 d3 d4 d5 d6 d7 : De) : Tryz.prog.built 72 [(0, .agg #[.int .i64 ep, .slice a1 n1 c1]), (1, .slice a2 n2 c2), (2, .int .i64 dn), (3, .map (some m)), (4, .agg (deC [d0, d1, d2, d3, d4, d5, d6, d7]).toArray)] = some (ldC ep (.slice a1 n1 c1) (.slice a2 n2 c2) dn (.map (some m)) [d0, d1, d2, d3, d4, d5, d6, d7]).toArray := by kernel_rfl
theorem built_ledger {l : List De} (hl : l.length = 8) (ep dn : Int) (a1 a2 : Option Addr) (n1 c1 n2 c2 m : Nat) : Tryz.prog.built 72 [(0, .agg #[.int .i64 ep, .slice a1 n1 c1]), (1, .slice a2 n2 c2), (2, .int .i64 dn), (3, .map (some m)), (4, .agg (deC l).toArray)] = some (ldC ep (.slice a1 n1 c1) (.slice a2 n2 c2) dn (.map (some m)) l).toArray := by
  obtain ⟨d0, d1, d2, d3, d4, d5, d6, d7, rfl⟩ := eight_of hl
  exact built_eight ..
section
variable {o : Oper} {a : Act} {w : World} {K : Act → World → Prop} {Q : Exit → Act → World → Prop}
theorem owp_build (t : TypeId) (parts : Array (Nat × Operand)) (ho : o.op = .build t parts) (ps : List (Nat × Value)) (hps : (parts.map fun (i, x) => (i, a.eval x)).toList = ps) (cells : Array Value) (hb : Tryz.prog.built t ps = some cells) (h : K (a.put o.dst (.agg cells)) w) : o.wp Tryz.prog a w K Q := by
  subst hps
  unfold Oper.wp execOp
  simp only [ho, Sem.run_bind, run_build w t _ cells hb, Result.andThen_ok]
  exact h
theorem owp_box_agg (t : TypeId) (x : Operand) (ho : o.op = .box t x) (c : Array Value) (hx : a.eval x = .agg c)
    (h : K (a.put o.dst (.pointer (some ⟨w.heap.size, 0, none⟩))) (w.alloc (.cells c t))) : o.wp Tryz.prog a w K Q := by
  refine owp_value (v := .pointer (some ⟨w.heap.size, 0, none⟩)) (w' := w.alloc (.cells c t)) ?_ h
  simp [execOp, ho, Instr.box, hx, newVar, newRow, newObj, Value.cells, Result.andThen]
  rfl
end
end Go.Proofs.YtecidbdbdnnglaaGreat

/- The ledger as the laws see it; their sign of life. -/
namespace Go.Proofs.YtecidbdbdnnglaaGreat
open Go.RowKit

theorem ints_blkZ {w : World} {g : Nat} {zs : List Int} {T : TypeId} {fr : Nat × Nat} (h : w.heap[g]? = some (.cells (zs.map (Value.int .i64)).toArray T fr)) : IntsIn w (some ⟨g, 0, none⟩) zs :=
  .inr ⟨g, 0, rfl, lt_of_blk h, fun j z hz => by
    exact heap_cells h _ _ (by rw [List.getElem?_map, hz]; rfl)⟩
section
variable {F : List Nat} {w : World} {v : Value} {s : Ls}
theorem gnextT (h : LdAt F w v s) : Calls Tryz.prog 19 #[v] w fun e w' => ∃ a1 c1, e = .returned (.slice a1 s.nxt.length c1) ∧ NewI w.heap.size w' a1 s.nxt ∧ Below w.heap.size w w' := by
  obtain ⟨g, m, am, an, cm, cn, rfl, rfl, h⟩ := h
  exact gnext_any h
theorem gdoneT (h : LdAt F w v s) : Calls Tryz.prog 14 #[v] w fun e w' => e = .returned (.int .i64 (s.dn : Int)) ∧ Below w.heap.size w w' := by
  obtain ⟨g, m, am, an, cm, cn, rfl, rfl, h⟩ := h
  exact (gdone_any h).mono fun e w' ⟨h1, h2⟩ => ⟨h1, h2 ▸ Below.refl _ _⟩
theorem gfullT (h : LdAt F w v s) : Calls Tryz.prog 29 #[v] w fun e w' => e = .returned (.bool (fullS s)) ∧ Below w.heap.size w w' := by
  obtain ⟨g, m, am, an, cm, cn, rfl, rfl, h⟩ := h
  exact gfull_any h
theorem gconfT (h : LdAt F w v s) : Calls Tryz.prog 18 #[v] w fun e w' => ∃ a1 c1, e = .returned (.agg #[.int .i64 (s.ep : Int), .slice a1 s.mem.length c1]) ∧ NewI w.heap.size w' a1 s.mem ∧ Below w.heap.size w w' := by
  obtain ⟨g, m, am, an, cm, cn, rfl, rfl, h⟩ := h
  exact gconf_any h
theorem ggetT (h : LdAt F w v s) (k : ByteArray) (hk : k.size ≤ maxLen) : Calls Tryz.prog 32 #[v, .string k] w fun e w' => e = .returned (.tuple #[.float .f64 (valK k s.its), .bool (getK k s.its).isSome]) ∧ Below w.heap.size w w' := by
  obtain ⟨g, m, am, an, cm, cn, rfl, rfl, h⟩ := h
  exact (gget_any h k hk).mono fun e w' ⟨h1, h2⟩ => ⟨h1, h2 ▸ Below.refl _ _⟩
theorem glastT (h : LdAt F w v s) (c : Nat) (hc : c < 8) (z : Int) (hz : z = (c : Int) + 1) : Calls Tryz.prog 34 #[v, .int .i64 z] w fun e w' => e = .returned (.tuple #[.int .i64 ((s.at c).1 : Int), .agg #[.int .i64 (s.at c).2.1, .float .f64 (s.at c).2.2]]) ∧ Below w.heap.size w w' := by
  obtain ⟨g, m, am, an, cm, cn, rfl, rfl, h⟩ := h
  exact glast_in h c hc z hz
end
/-- The members of the first ledger, the request of one that joins. -/
def liveL : List Int := [0, 1, 2, 3]
def liveR : Rq := ⟨1, 1, 6, ⟨#[]⟩, 0, 4⟩
theorem live_new : rightC 0 liveL = true := by decide
theorem live_do : doE (newS liveL) liveR = 0 ∧ doC (newS liveL) liveR = 0 ∧ doF (newS liveL) liveR = 0 ∧ (doS (newS liveL) liveR).nxt.length = 5 ∧ (doS (newS liveL) liveR).dn = 1 := by decide
/-- While a ledger lives: what was there stays, its blocks are new. -/
structure LvSt (w0 w : World) (F : List Nat) (v : Value) (s : Ls) : Prop where
  ld : LdAt F w v s
  new : ∀ b, b ∈ F → w0.heap.size ≤ b
  bel : Below w0.heap.size w0 w
theorem LvSt.keep {w0 w w' : World} {F : List Nat} {v : Value} {s : Ls} (h : LvSt w0 w F v s) (hb : Below w.heap.size w w') : LvSt w0 w' F v s := ⟨h.ld.keep hb, h.new, h.bel.trans (hb.mono h.bel.size)⟩
theorem LvSt.to {w0 w w' : World} {F : List Nat} {v : Value} {s s' : Ls} (h : LvSt w0 w F v s) (ht : LdTo F w w' v s') : ∃ F', LvSt w0 w' F' v s' := by
  obtain ⟨F', h1, h2, h3⟩ := ht
  refine ⟨F', h1, fun b hb => ?_, ?_⟩
  · rcases h2 b hb with h4 | h4
    · exact h.new b h4
    · exact Nat.le_trans h.bel.size h4
  · exact h.bel.trans (h3.below h.bel.size h.new)
set_option maxRecDepth 100000 in
set_option maxHeartbeats 3200000 in
theorem elives_any (w : World) : Calls Tryz.prog 6 #[] w fun e w' => e = .returned (.bool true) ∧ Below w.heap.size w w' := by
  have hax := (Below.refl w.heap.size w).alloc (Nat.le_refl _) (.cells #[.int .i64 0, .int .i64 1, .int .i64 2, .int .i64 3] 3)
  have HNw : Hid (Calls Tryz.prog 7 #[.agg #[.int .i64 0, .slice (some ⟨w.heap.size, 0, none⟩) 4 4]] (w.alloc (.cells #[.int .i64 0, .int .i64 1, .int .i64 2, .int .i64 3] 3)) fun r w' => ∃ g F, r = .returned (.tuple #[.pointer (some ⟨g, 0, none⟩), .int .i64 0]) ∧ LvSt w w' F (.pointer (some ⟨g, 0, none⟩)) (newS liveL)) := hid
    ((gnew_yes (some ⟨w.heap.size, 0, none⟩) 4 4 liveL rfl _ (ints_blkZ (T := 3) (fr := (0, 0)) (heap_alloc_last w _)) live_new).mono fun e w' ⟨v, F, h1, h2, h3, h4⟩ => by
      obtain ⟨g, rfl⟩ := h2.ptr
      exact ⟨g, F, h1, h2, fun b hb => Nat.le_trans hax.size (h3 b hb), hax.trans (h4.mono hax.size)⟩)
  have HDo : Hid (∀ (u : World) (F : List Nat) (v : Value), LvSt w u F v (newS liveL) → Calls Tryz.prog 16 #[v, .agg #[.int .i64 1, .int .i64 1, .int .i64 6, .string ⟨#[]⟩, .float .f64 0, .int .i64 4]] u fun e w' => e = .returned (.tuple #[.agg #[.int .i64 0, .float .f64 0], .int .i64 0]) ∧ ∃ F', LvSt w w' F' v (doS (newS liveL) liveR)) := hid (fun u F v hu =>
    (gdo_any hu.ld liveR (by decide)).mono fun e w' ⟨h1, h2⟩ => by
      obtain ⟨x1, x2, x3, -, -⟩ := live_do
      rw [x1, x2, x3] at h1
      exact ⟨h1, hu.to h2⟩)
  have HNx : Hid (∀ (u : World) (F : List Nat) (v : Value), LvSt w u F v (doS (newS liveL) liveR) → Calls Tryz.prog 19 #[v] u fun e w' => ∃ a1 c1, e = .returned (.slice a1 5 c1) ∧ LvSt w w' F v (doS (newS liveL) liveR)) := hid (fun u F v hu =>
    (gnextT hu.ld).mono fun e w' ⟨a1, c1, h1, _, h2⟩ => ⟨a1, c1, live_do.2.2.2.1 ▸ h1, hu.keep h2⟩)
  have HDn : Hid (∀ (u : World) (F : List Nat) (v : Value), LvSt w u F v (doS (newS liveL) liveR) → Calls Tryz.prog 14 #[v] u fun e w' => e = .returned (.int .i64 1) ∧ LvSt w w' F v (doS (newS liveL) liveR)) := hid (fun u F v hu =>
    (gdoneT hu.ld).mono fun e w' ⟨h1, h2⟩ => ⟨by have := live_do.2.2.2.2; rw [this] at h1; exact h1, hu.keep h2⟩)
  clear hax
  generalize doS (newS liveL) liveR = S2 at HDo HNx HDn
  generalize newS liveL = S1 at HNw HDo
  go_enter Tryz.func6, Tryz.ntmps6
  go_wp2_with (first
    | (go_at_call 7; refine HNw.out.mono ?_; rintro e w1 ⟨g, F, rfl, h⟩; have H1 := hid h; clear h)
    | (go_at_call 16; refine (HDo.out _ _ _ H1.out).mono ?_; rintro e w2 ⟨rfl, h⟩; have H2 := hid h; clear h)
    | (have := H2
       refine wl_store_rs rfl _ _ rfl w2.heap.size rfl 0 0 0 0 rfl (heap_alloc_last w2 _) ?_
       intro w3 Hz
       have hax := (Below.refl w2.heap.size w2).alloc (Nat.le_refl _) (.cells #[.int .i64 0, .float .f64 0] 50)
       obtain ⟨F2, h2⟩ := H2.out
       have H3 : Hid (RsAt w3 w2.heap.size 0 0 ∧ LvSt w w3 F2 (.pointer (some ⟨g, 0, none⟩)) S2) := hid ⟨Hz.out.1, h2.keep (Hz.out.2.below hax (Nat.le_refl _))⟩
       clear hax h2 H2
       obtain ⟨z0, z1⟩ := H3.out.1.cells)
    | (go_at_call 19; refine (HNx.out _ _ _ H3.out.2).mono ?_; rintro e w4 ⟨a1, c1, rfl, h⟩; have H4 := hid h; clear h)
    | (go_at_call 14; refine (HDn.out _ _ _ H4.out).mono ?_; rintro e w5 ⟨rfl, h⟩; have H5 := hid h; clear h))
  go_ret
  exact ⟨rfl, H5.out.bel⟩
end Go.Proofs.YtecidbdbdnnglaaGreat
