/- The document's text of a request. -/
import Derived.Test.YtpgfdnmlkaoigaaDsC
import Derived.Test.YtpgfdnmlkaoigaaTxA
namespace Go.Proofs.Ytpgfdnmlkaoigaa
open Go.RowKit

theorem below_up {B C : Nat} {x y z : World} (h : Below B x y) (k : Below C y z) (hC : B ≤ C) (_hs : C ≤ y.heap.size) : Below B x z := h.trans (k.mono hC)
set_option maxRecDepth 100000 in
set_option maxHeartbeats 6400000 in
theorem qtext_any (r : Rq) (hb : r.b < 18446744073709551616) (w : World) : Calls Try.prog 12 #[.agg #[.int .i64 r.c, .int .i64 r.st, .int .i64 r.k, .string r.key, .float .f64 r.b, .int .i64 r.id]] w fun e w' => e = .returned (.tuple #[.string (rqT r), .int .i64 (rqE r)]) ∧ Below w.heap.size w w' := by
  have H0 : Hid (RqAt (w.alloc (.cells #[.int .i64 r.c, .int .i64 r.st, .int .i64 r.k, .string r.key, .float .f64 r.b, .int .i64 r.id] 30)) w.heap.size r ∧ Below w.heap.size w (w.alloc (.cells #[.int .i64 r.c, .int .i64 r.st, .int .i64 r.k, .string r.key, .float .f64 r.b, .int .i64 r.id] 30))) := hid ⟨heap_alloc_last w _, (Below.refl w.heap.size w).alloc (Nat.le_refl _) _⟩
  have HN : Hid (∀ X, nullB r = X → ∀ u, Calls Try.prog 16 #[.agg #[.int .i64 r.c, .int .i64 r.st, .int .i64 r.k, .string r.key, .float .f64 r.b, .int .i64 r.id]] u fun e w' => e = .returned (.bool X) ∧ Below u.heap.size u w') := hid (fun X hX u => by rw [← hX]; exact qnull_any r u)
  have HR : Hid (∀ X, rightB r = X → ∀ u, Calls Try.prog 14 #[.agg #[.int .i64 r.c, .int .i64 r.st, .int .i64 r.k, .string r.key, .float .f64 r.b, .int .i64 r.id]] u fun e w' => e = .returned (.bool X) ∧ Below u.heap.size u w') := hid (fun X hX u => by rw [← hX]; exact qright_any r u)
  cases hN : nullB r with
  | true =>
    rw [show rqT r = ⟨#[0]⟩ by rw [rqT, if_pos hN], show rqE r = 0 by rw [rqE, if_pos hN]]
    have HNb := hid (HN.out _ hN)
    clear hN hb
    go_enter Try.func12, Try.ntmps12
    go_wp2_with (go_at_call 16; refine (HNb.out _).mono ?_; rintro e w1 ⟨rfl, hb1⟩; have H1 := hid (And.intro (H0.out.1.keep hb1) (H0.out.2.trans (hb1.mono H0.out.2.size))); clear hb1; obtain ⟨⟨z0, z1⟩, z2, z3, z4, z5⟩ := H1.out.1.cells)
    go_ret2
    exact ⟨rfl, H1.out.2⟩
  | false =>
    have HNb := hid (HN.out _ hN)
    cases hR : rightB r with
    | false =>
      rw [show rqT r = ⟨#[]⟩ by rw [rqT, hN, hR]; rfl, show rqE r = 1 by rw [rqE, hN, hR]; rfl]
      have HRb := hid (HR.out _ hR)
      clear hN hR hb
      go_enter Try.func12, Try.ntmps12
      go_wp2_with (first
        | (go_at_call 16; refine (HNb.out _).mono ?_; rintro e w1 ⟨rfl, hb1⟩; have H1 := hid (And.intro (H0.out.1.keep hb1) (H0.out.2.trans (hb1.mono H0.out.2.size))); clear hb1; obtain ⟨⟨z0, z1⟩, z2, z3, z4, z5⟩ := H1.out.1.cells)
        | (go_at_call 14; refine (HRb.out _).mono ?_; rintro e w2 ⟨rfl, hb2⟩; have H2 := hid (And.intro (H1.out.1.keep hb2) (H1.out.2.trans (hb2.mono H1.out.2.size))); clear hb2 z0 z1 z2 z3 z4 z5; obtain ⟨⟨z0, z1⟩, z2, z3, z4, z5⟩ := H2.out.1.cells))
      go_ret2
      exact ⟨rfl, H2.out.2⟩
    | true =>
      rw [show rqT r = ⟨(rqL r).toArray⟩ by rw [rqT, hN, hR]; rfl, show rqE r = 0 by rw [rqE, hN, hR]; rfl]
      have HRb := hid (HR.out _ hR)
      obtain ⟨⟨c1, c2⟩, ⟨s1, s2⟩, ⟨k1, k2⟩, hk, i1, i2⟩ := right_fields hR
      have HZ := hid (And.intro hk (canW_lt hb))
      obtain ⟨C, eC⟩ : ∃ C : Nat, r.c = (C : Int) := ⟨r.c.toNat, by omega⟩
      obtain ⟨S, eS⟩ : ∃ S : Nat, r.st = (S : Int) := ⟨r.st.toNat, by omega⟩
      obtain ⟨N, eN⟩ : ∃ N : Nat, r.k = (N : Int) := ⟨r.k.toNat, by omega⟩
      obtain ⟨I, eI⟩ : ∃ I : Nat, r.id = (I : Int) := ⟨r.id.toNat, by omega⟩
      have HF : Hid ((C < 256 ∧ S < 4294967296 ∧ N < 256 ∧ I < 256) ∧ rqL r = be 1 1 ++ (be 1 C ++ (be 4 S ++ (be 1 N ++ (be 2 r.key.size ++ (r.key.data.toList ++ (be 8 (canW r.b) ++ be 1 I))))))) := hid ⟨by omega, by rw [rqL, eC, eS, eN, eI]; rfl⟩
      clear c1 c2 s1 s2 k1 k2 hk i1 i2 hN hR hb
      obtain ⟨c, st, k, key, b, id⟩ := r
      simp only at eC eS eN eI HF HZ H0 HN HR HNb HRb ⊢
      subst eC eS eN eI
      have HKB : Hid (∀ u, Calls Try.prog 43 #[.float .f64 b] u fun e w' => e = .returned (.int .u64 (canW b : Nat)) ∧ w' = u) := hid (fun u => kbits_any b u)
      generalize canW b = W8 at HF HZ HKB
      go_enter Try.func12, Try.ntmps12
      go_wp2_with (first
        | (go_at_call 16; refine (HNb.out _).mono ?_; rintro e w1 ⟨rfl, hb1⟩; have H1 := hid (And.intro (H0.out.1.keep hb1) (H0.out.2.trans (hb1.mono H0.out.2.size))); clear hb1; obtain ⟨⟨z0, z1⟩, z2, z3, z4, z5⟩ := H1.out.1.cells)
        | (go_at_call 14; refine (HRb.out _).mono ?_; rintro e w2 ⟨rfl, hb2⟩; have H2 := hid (And.intro (H1.out.1.keep hb2) (H1.out.2.trans (hb2.mono H1.out.2.size))); clear hb2 z0 z1 z2 z3 z4 z5; obtain ⟨⟨z0, z1⟩, z2, z3, z4, z5⟩ := H2.out.1.cells)
        | (go_at_call 39; refine (txnew 100 (by decide) _).mono ?_; rintro e w3 ⟨rfl, h3⟩; have T0 := hid h3; clear h3; have HQT0 : Hid (RqAt w3 w.heap.size ⟨C, S, N, key, b, I⟩) := hid (((T0.out.2).block _ (lt_of_blk H2.out.1)).trans H2.out.1); (try clear z0 z1 z2 z3 z4 z5); obtain ⟨⟨z0, z1⟩, z2, z3, z4, z5⟩ := HQT0.out.cells)
        | (go_at_call 40; have := T6; refine (txnum 100 (by decide) (by decide) _ _ _ ([] ++ be 1 1 ++ be 1 C ++ be 4 S ++ be 1 N ++ (be 2 key.size ++ key.data.toList) ++ be 8 W8) I 1 (by decide) (by have := HF.out.1.2.2.2; omega) (by have := HZ.out.1; simp only [List.length_append, List.length_nil, be_len]; (try rw [data_len]); omega) (by exact T6.out)).mono ?_; rintro e v6 ⟨rfl, h6⟩; have T7 := hid h6; clear h6; have HQT7 : Hid (RqAt v6 w.heap.size ⟨C, S, N, key, b, I⟩) := hid (((T7.out.2).block _ (lt_of_blk H2.out.1)).trans H2.out.1); (try clear z0 z1 z2 z3 z4 z5); obtain ⟨⟨z0, z1⟩, z2, z3, z4, z5⟩ := HQT7.out.cells)
        | (go_at_call 42; have := T5; refine (txbits 100 (by decide) (by decide) _ _ _ ([] ++ be 1 1 ++ be 1 C ++ be 4 S ++ be 1 N ++ (be 2 key.size ++ key.data.toList)) W8 HZ.out.2 (by have := HZ.out.1; simp only [List.length_append, List.length_nil, be_len]; (try rw [data_len]); omega) (by exact T5.out)).mono ?_; rintro e v5 ⟨rfl, h5⟩; have T6 := hid h5; clear h5; have HQT6 : Hid (RqAt v5 w.heap.size ⟨C, S, N, key, b, I⟩) := hid (((T6.out.2).block _ (lt_of_blk H2.out.1)).trans H2.out.1); (try clear z0 z1 z2 z3 z4 z5); obtain ⟨⟨z0, z1⟩, z2, z3, z4, z5⟩ := HQT6.out.cells)
        | (go_at_call 41; have := T4; refine (txtext 100 (by decide) (by decide) _ _ _ ([] ++ be 1 1 ++ be 1 C ++ be 4 S ++ be 1 N) key (by have := HZ.out.1; omega) (by have := HZ.out.1; simp only [List.length_append, List.length_nil, be_len]; (try rw [data_len]); omega) (by exact T4.out)).mono ?_; rintro e v4 ⟨rfl, h4⟩; have T5 := hid h4; clear h4; have HQT5 : Hid (RqAt v4 w.heap.size ⟨C, S, N, key, b, I⟩) := hid (((T5.out.2).block _ (lt_of_blk H2.out.1)).trans H2.out.1); (try clear z0 z1 z2 z3 z4 z5); obtain ⟨⟨z0, z1⟩, z2, z3, z4, z5⟩ := HQT5.out.cells)
        | (go_at_call 40; have := T3; refine (txnum 100 (by decide) (by decide) _ _ _ ([] ++ be 1 1 ++ be 1 C ++ be 4 S) N 1 (by decide) (by have := HF.out.1.2.2.1; omega) (by have := HZ.out.1; simp only [List.length_append, List.length_nil, be_len]; (try rw [data_len]); omega) (by exact T3.out)).mono ?_; rintro e v3 ⟨rfl, h3⟩; have T4 := hid h3; clear h3; have HQT4 : Hid (RqAt v3 w.heap.size ⟨C, S, N, key, b, I⟩) := hid (((T4.out.2).block _ (lt_of_blk H2.out.1)).trans H2.out.1); (try clear z0 z1 z2 z3 z4 z5); obtain ⟨⟨z0, z1⟩, z2, z3, z4, z5⟩ := HQT4.out.cells)
        | (go_at_call 40; have := T2; refine (txnum 100 (by decide) (by decide) _ _ _ ([] ++ be 1 1 ++ be 1 C) S 4 (by decide) (by have := HF.out.1.2.1; omega) (by have := HZ.out.1; simp only [List.length_append, List.length_nil, be_len]; (try rw [data_len]); omega) (by exact T2.out)).mono ?_; rintro e v2 ⟨rfl, h2⟩; have T3 := hid h2; clear h2; have HQT3 : Hid (RqAt v2 w.heap.size ⟨C, S, N, key, b, I⟩) := hid (((T3.out.2).block _ (lt_of_blk H2.out.1)).trans H2.out.1); (try clear z0 z1 z2 z3 z4 z5); obtain ⟨⟨z0, z1⟩, z2, z3, z4, z5⟩ := HQT3.out.cells)
        | (go_at_call 40; have := T1; refine (txnum 100 (by decide) (by decide) _ _ _ ([] ++ be 1 1) C 1 (by decide) (by have := HF.out.1.1; omega) (by have := HZ.out.1; simp only [List.length_append, List.length_nil, be_len]; (try rw [data_len]); omega) (by exact T1.out)).mono ?_; rintro e v1 ⟨rfl, h1⟩; have T2 := hid h1; clear h1; have HQT2 : Hid (RqAt v1 w.heap.size ⟨C, S, N, key, b, I⟩) := hid (((T2.out.2).block _ (lt_of_blk H2.out.1)).trans H2.out.1); (try clear z0 z1 z2 z3 z4 z5); obtain ⟨⟨z0, z1⟩, z2, z3, z4, z5⟩ := HQT2.out.cells)
        | (go_at_call 40; have := T0; refine (txnum 100 (by decide) (by decide) _ _ _ [] 1 1 (by decide) (by decide) (by decide) (by exact T0.out)).mono ?_; rintro e v0 ⟨rfl, h0⟩; have T1 := hid h0; clear h0; have HQT1 : Hid (RqAt v0 w.heap.size ⟨C, S, N, key, b, I⟩) := hid (((T1.out.2).block _ (lt_of_blk H2.out.1)).trans H2.out.1); (try clear z0 z1 z2 z3 z4 z5); obtain ⟨⟨z0, z1⟩, z2, z3, z4, z5⟩ := HQT1.out.cells)
        | (go_at_call 43; refine (HKB.out _).mono ?_; rintro e w9 ⟨rfl, rfl⟩)
        | (go_at_call 44; refine (txdone 100 _ _ _ _ (by exact T7.out)).mono ?_; rintro e wd ⟨rfl, hd⟩; have HDn := hid (H2.out.2.trans (hd.mono H2.out.2.size)); clear hd))
      go_ret2
      refine ⟨?_, HDn.out⟩
      rw [HF.out.2]
      rfl
end Go.Proofs.Ytpgfdnmlkaoigaa
