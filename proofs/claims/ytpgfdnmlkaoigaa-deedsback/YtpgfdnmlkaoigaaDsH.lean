/- The document's: are two results one; what is prepared. -/
import Derived.Test.YtpgfdnmlkaoigaaDsG
namespace Go.Proofs.Ytpgfdnmlkaoigaa
open Go.RowKit

set_option maxRecDepth 100000 in
set_option maxHeartbeats 6400000 in
theorem qsameResult_any (c : Int) (f : Nat) (c' : Int) (f' : Nat) (w : World) : Calls Try.prog 24 #[.agg #[.int .i64 c, .float .f64 f], .agg #[.int .i64 c', .float .f64 f']] w fun e w' => e = .returned (.bool (sameS c f c' f')) ∧ Below w.heap.size w w' := by
  obtain ⟨W, eW⟩ : ∃ W, W = (w.alloc (.cells #[.int .i64 c, .float .f64 f] 41)).alloc (.cells #[.int .i64 c', .float .f64 f'] 41) := ⟨_, rfl⟩
  have H0 : Hid (RsAt W w.heap.size c f ∧ RsAt W (w.heap.size + 1) c' f' ∧ Below w.heap.size w W) := hid (by
    rw [eW]
    exact ⟨(Below.heap_alloc _ _ _ (by simp)).trans (heap_alloc_last w _), snd_alloc w _ _, ((Below.refl _ _).alloc (Nat.le_refl _) _).alloc (by simp) _⟩)
  have HKB : Hid (∀ (b : Nat) (u : World), Calls Try.prog 43 #[.float .f64 b] u fun e w' => e = .returned (.int .u64 (canW b : Nat)) ∧ Below u.heap.size u w') := hid (fun b u => (kbits_any b u).mono fun e w' ⟨h1, h2⟩ => ⟨h1, by rw [h2]; exact Below.refl _ _⟩)
  obtain ⟨B, hB⟩ : ∃ B, sameS c f c' f' = B := ⟨_, rfl⟩
  rw [hB]
  have HBe : Hid (B = (decide (c = c') && decide (canW f = canW f'))) := hid hB.symm
  clear hB
  have q0 : ∀ u : Cls W, u.1.cell? ⟨w.heap.size, 0, none⟩ = some (.int .i64 c) := fun u => (H0.out.1.keep u.2).cells.1
  have q1 : ∀ u : Cls W, u.1.cell? ⟨w.heap.size, 1, none⟩ = some (.float .f64 f) := fun u => (H0.out.1.keep u.2).cells.2
  have p0 : ∀ u : Cls W, u.1.cell? ⟨w.heap.size + 1, 0, none⟩ = some (.int .i64 c') := fun u => (H0.out.2.1.keep u.2).cells.1
  have p1 : ∀ u : Cls W, u.1.cell? ⟨w.heap.size + 1, 1, none⟩ = some (.float .f64 f') := fun u => (H0.out.2.1.keep u.2).cells.2
  by_cases h0 : c = c'
  · have t0 : (c == c') = true := by simp [h0]
    have HH0 := hid h0
    clear h0
    by_cases h1 : canW f = canW f'
    · have t1 : (((canW f : Nat) : Int) == ((canW f' : Nat) : Int)) = true := by simp [h1]
      have HH1 := hid h1
      clear h1
      go_enter Try.func24, Try.ntmps24
      go_wp2
      rw [← eW]
      clear eW
      haveI := Cls.ne W
      refine wp_region_cls W (by kernel_rfl) (by kernel_rfl) ?_
      repeat (go_big_quiet_step ((first | (go_at_call 43; exact Cls.of _ (fun u _ => HKB.out _ u)))))
      rintro w' ⟨u, rfl⟩
      go_wp2
      go_ret
      exact ⟨ret_bool (by rw [HBe.out]; simp [HH0.out, HH1.out]), H0.out.2.2.trans (u.2.mono H0.out.2.2.size)⟩
    · have t1 : (((canW f : Nat) : Int) == ((canW f' : Nat) : Int)) = false := by simp; omega
      have HH1 := hid h1
      clear h1
      go_enter Try.func24, Try.ntmps24
      go_wp2
      rw [← eW]
      clear eW
      haveI := Cls.ne W
      refine wp_region_cls W (by kernel_rfl) (by kernel_rfl) ?_
      repeat (go_big_quiet_step ((first | (go_at_call 43; exact Cls.of _ (fun u _ => HKB.out _ u)))))
      rintro w' ⟨u, rfl⟩
      go_wp2
      go_ret
      exact ⟨ret_bool (by rw [HBe.out]; simp [HH1.out]), H0.out.2.2.trans (u.2.mono H0.out.2.2.size)⟩
  · have t0 : (c == c') = false := by simpa using h0
    have HH0 := hid h0
    clear h0
    go_enter Try.func24, Try.ntmps24
    go_wp2
    rw [← eW]
    clear eW
    haveI := Cls.ne W
    refine wp_region_cls W (by kernel_rfl) (by kernel_rfl) ?_
    repeat (go_big_quiet_step ((first | (go_at_call 43; exact Cls.of _ (fun u _ => HKB.out _ u)))))
    rintro w' ⟨u, rfl⟩
    go_wp2
    go_ret
    exact ⟨ret_bool (by rw [HBe.out]; simp [HH0.out]), H0.out.2.2.trans (u.2.mono H0.out.2.2.size)⟩
/-- The bytes ahead of a request that is prepared. -/
theorem pr_head {e v s : Int} (h : spB e v s = true) : ∃ E V S : Nat, e = (E : Int) ∧ v = (V : Int) ∧ s = (S : Int) ∧ E < 256 ^ 4 ∧ V < 256 ^ 4 ∧ S < 256 ^ 4 := by
  rw [spB, Bool.and_eq_true_iff, Bool.and_eq_true_iff] at h
  have h1 := inR4 h.1.1
  have h2 := inR4 h.1.2
  have h3 := inR4 h.2
  exact ⟨e.toNat, v.toNat, s.toNat, by omega, by omega, by omega, by omega, by omega, by omega⟩
theorem rqT_size (r : Rq) : (rqT r).size ≤ 34 := by
  unfold rqT
  split
  · decide
  · split
    · next h =>
      have h1 := (right_fields h).2.2.2.1
      have h2 := rqL_len r
      show (rqL r).toArray.size ≤ 34
      simp
      omega
    · decide
set_option maxRecDepth 100000 in
set_option maxHeartbeats 6400000 in
theorem qprepared_any (e v s : Int) (r : Rq) (hb : r.b < 18446744073709551616) (w : World) : Calls Try.prog 29 #[.int .i64 e, .int .i64 v, .int .i64 s, .agg #[.int .i64 r.c, .int .i64 r.st, .int .i64 r.k, .string r.key, .float .f64 r.b, .int .i64 r.id]] w fun e' w' => e' = .returned (.tuple #[.string (prT e v s r), .int .i64 (prE e v s r)]) ∧ Below w.heap.size w w' := by
  have H0 : Hid (RqAt (w.alloc (.cells #[.int .i64 r.c, .int .i64 r.st, .int .i64 r.k, .string r.key, .float .f64 r.b, .int .i64 r.id] 30)) w.heap.size r ∧ Below w.heap.size w (w.alloc (.cells #[.int .i64 r.c, .int .i64 r.st, .int .i64 r.k, .string r.key, .float .f64 r.b, .int .i64 r.id] 30))) := hid ⟨heap_alloc_last w _, (Below.refl w.heap.size w).alloc (Nat.le_refl _) _⟩
  have HTx : Hid (∀ E, rqE r = E → ∀ u, Calls Try.prog 12 #[.agg #[.int .i64 r.c, .int .i64 r.st, .int .i64 r.k, .string r.key, .float .f64 r.b, .int .i64 r.id]] u fun e w' => e = .returned (.tuple #[.string (rqT r), .int .i64 E]) ∧ Below u.heap.size u w') := hid (fun E hE u => by rw [← hE]; exact qtext_any r hb u)
  have HSz := hid (rqT_size r)
  clear hb
  by_cases hE : rqE r = 0
  · have HTb := hid (HTx.out 0 hE)
    cases hB : spB e v s with
    | true =>
      rw [show prE e v s r = 0 by rw [prE, if_pos hE, if_pos hB]]
      have hT : prT e v s r = ⟨(prL e v s).toArray⟩ ++ rqT r := by
        apply ByteArray.ext
        apply Array.ext'
        rw [add_texts, prT, if_pos hE, if_pos hB]
      obtain ⟨E, V, S, rfl, rfl, rfl, e1, e2, e3⟩ := pr_head hB
      rw [hT, show prL (E : Int) (V : Int) (S : Int) = be 1 80 ++ (be 4 E ++ (be 4 V ++ be 4 S)) from rfl]
      generalize rqT r = T at HTb HSz ⊢
      have HX : Hid (∀ n, n = (be 1 80).length + ((be 4 E).length + ((be 4 V).length + (be 4 S).length)) + T.size → n ≤ 9223372036854775807) := hid (by intro n hn; simp only [be_len] at hn; have := HSz.out; omega)
      have HN := hid (And.intro e1 (And.intro e2 e3))
      clear hE hB hT e1 e2 e3 HTx
      go_enter Try.func29, Try.ntmps29
      go_wp2_with (first
        | (go_at_call 12; refine (HTb.out _).mono ?_; rintro e w2 ⟨rfl, hb2⟩; have H2 := hid (H0.out.2.trans (hb2.mono H0.out.2.size)); clear hb2)
        | (go_at_call 39; refine (txnew 100 (by decide) _).mono ?_; rintro e w3 ⟨rfl, h3⟩; have T0 := hid h3; clear h3)
        | (go_at_call 40; have := T3; refine (txnum 100 (by decide) (by decide) _ _ _ ([] ++ be 1 80 ++ be 4 E ++ be 4 V) S 4 (by decide) HN.out.2.2 (by simp only [List.length_append, List.length_nil, be_len]; decide) (by exact T3.out)).mono ?_; rintro e w7 ⟨rfl, h7⟩; have T4 := hid h7; clear h7)
        | (go_at_call 40; have := T2; refine (txnum 100 (by decide) (by decide) _ _ _ ([] ++ be 1 80 ++ be 4 E) V 4 (by decide) HN.out.2.1 (by simp only [List.length_append, List.length_nil, be_len]; decide) (by exact T2.out)).mono ?_; rintro e w6 ⟨rfl, h6⟩; have T3 := hid h6; clear h6)
        | (go_at_call 40; have := T1; refine (txnum 100 (by decide) (by decide) _ _ _ ([] ++ be 1 80) E 4 (by decide) HN.out.1 (by decide) (by exact T1.out)).mono ?_; rintro e w5 ⟨rfl, h5⟩; have T2 := hid h5; clear h5)
        | (go_at_call 40; refine (txnum 100 (by decide) (by decide) _ _ _ [] 80 1 (by decide) (by decide) (by decide) (by exact T0.out)).mono ?_; rintro e w4 ⟨rfl, h4⟩; have T1 := hid h4; clear h4)
        | (go_at_call 44; refine (txdone 100 _ _ _ _ (by exact T4.out)).mono ?_; rintro e w8 ⟨rfl, h8⟩; have HDn := hid (H2.out.trans (h8.mono H2.out.size)); clear h8))
      · rename_i h; exact absurd h (Nat.not_lt.mpr (HX.out _ (by omega)))
      go_ret2
      exact ⟨rfl, HDn.out⟩
    | false =>
      rw [show prE e v s r = 1 by rw [prE, if_pos hE, hB]; rfl, show prT e v s r = ⟨#[]⟩ by rw [prT, if_pos hE, hB]; rfl]
      obtain ⟨l1, hl1⟩ : ∃ l, l = wL 100 ([] ++ be 1 80) 0 4 e := ⟨_, rfl⟩
      obtain ⟨r1, hr1⟩ : ∃ l, l = wE 100 ([] ++ be 1 80) 0 4 e := ⟨_, rfl⟩
      obtain ⟨l2, hl2⟩ : ∃ l, l = wL 100 l1 r1 4 v := ⟨_, rfl⟩
      obtain ⟨r2, hr2⟩ : ∃ l, l = wE 100 l1 r1 4 v := ⟨_, rfl⟩
      obtain ⟨r3, hr3⟩ : ∃ l, l = wE 100 l2 r2 4 s := ⟨_, rfl⟩
      have hlen1 : l1.length ≤ 5 := by rw [hl1, wL]; split <;> simp [be_len]
      have hlen2 : l2.length ≤ 9 := by rw [hl2, wL]; split <;> (try simp [be_len]) <;> omega
      have hne : r3 ≠ 0 := fun h => by
        have h3 := adm_zero' (hr3.symm.trans h)
        have h2 := adm_zero' (hr2.symm.trans h3.1)
        have h1 := adm_zero' (hr1.symm.trans h2.1)
        rw [spB, h1.2, h2.2, h3.2] at hB
        cases hB
      have hneb : (r3 != 0) = true := by simpa using hne
      have HH := hid (And.intro hl1 (And.intro hr1 (And.intro hl2 (And.intro hr2 (And.intro hr3 (And.intro hlen1 hlen2))))))
      generalize rqT r = T at HTb HSz
      clear hE hB hl1 hr1 hl2 hr2 hr3 hlen1 hlen2 hne HTx
      go_enter Try.func29, Try.ntmps29
      go_wp2_with (first
        | (go_at_call 12; refine (HTb.out _).mono ?_; rintro e w2 ⟨rfl, hb2⟩; have H2 := hid (H0.out.2.trans (hb2.mono H0.out.2.size)); clear hb2)
        | (go_at_call 39; refine (txnew 100 (by decide) _).mono ?_; rintro e w3 ⟨rfl, h3⟩; have T0 := hid h3; clear h3)
        | (go_at_call 40; have := T3; refine (tenum 100 (by decide) (by decide) _ _ _ l2 r2 s 4 (by decide) (by have := HH.out.2.2.2.2.2.2; omega) (by exact T3.out)).mono ?_; rintro e w7 ⟨rfl, h7⟩; rw [← HH.out.2.2.2.2.1] at h7; have T4 := hid h7; clear h7)
        | (go_at_call 40; have := T2; refine (tenum 100 (by decide) (by decide) _ _ _ l1 r1 v 4 (by decide) (by have := HH.out.2.2.2.2.2.1; omega) (by exact T2.out)).mono ?_; rintro e w6 ⟨rfl, h6⟩; rw [← HH.out.2.2.1, ← HH.out.2.2.2.1] at h6; have T3 := hid h6; clear h6)
        | (go_at_call 40; have := T1; refine (tenum 100 (by decide) (by decide) _ _ _ ([] ++ be 1 80) 0 e 4 (by decide) (by decide) (by exact T1.out.te)).mono ?_; rintro e w5 ⟨rfl, h5⟩; rw [← HH.out.1, ← HH.out.2.1] at h5; have T2 := hid h5; clear h5)
        | (go_at_call 40; refine (txnum 100 (by decide) (by decide) _ _ _ [] 80 1 (by decide) (by decide) (by decide) (by exact T0.out)).mono ?_; rintro e w4 ⟨rfl, h4⟩; have T1 := hid h4; clear h4)
        | (go_at_call 44; refine (tedone 100 _ _ _ _ _ (by exact T4.out)).mono ?_; rintro e w8 ⟨rfl, h8⟩; have HDn := hid (H2.out.trans (h8.mono H2.out.size)); clear h8))
      go_ret2
      exact ⟨rfl, HDn.out⟩
  · have hE1 : rqE r = 1 := by
      unfold rqE at hE ⊢
      split
      · next h => rw [if_pos h] at hE; exact absurd rfl hE
      · next h =>
        rw [if_neg h] at hE
        split
        · next h2 => rw [if_pos h2] at hE; exact absurd rfl hE
        · rfl
    rw [show prE e v s r = 1 by rw [prE, if_neg hE], show prT e v s r = ⟨#[]⟩ by rw [prT, if_neg hE]]
    have HTb := hid (HTx.out 1 hE1)
    generalize rqT r = T at HTb HSz
    clear hE hE1 HTx
    go_enter Try.func29, Try.ntmps29
    go_wp2_with (go_at_call 12; refine (HTb.out _).mono ?_; rintro e w2 ⟨rfl, hb2⟩; have H2 := hid (H0.out.2.trans (hb2.mono H0.out.2.size)); clear hb2)
    go_ret2
    exact ⟨rfl, H2.out⟩
end Go.Proofs.Ytpgfdnmlkaoigaa
