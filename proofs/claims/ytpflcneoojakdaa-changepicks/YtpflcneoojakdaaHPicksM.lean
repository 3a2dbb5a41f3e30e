/- What is proposed again, by both. -/
import Derived.Test.YtpflcneoojakdaaChLM
import Derived.Test.YtpflcneoojakdaaChOM
import Derived.Test.YtpflcneoojakdaaChSM
namespace Go.Proofs.Ytpflcneoojakdaa
open Go.RowKit

theorem norm_all (rs : List Rq) (j : Nat) (hj : j < rs.length) : wholeB ((rs.map normR).getD j q0R) (rs.getD j q0R) = true := by
  have h1 : (rs.map normR).getD j q0R = normR (rs.getD j q0R) := by
    rw [List.getD_eq_getElem?_getD, List.getD_eq_getElem?_getD, List.getElem?_map, List.getElem?_eq_getElem hj]
    rfl
  rw [h1]
  exact norm_whole _
set_option maxRecDepth 100000 in
set_option maxHeartbeats 1600000 in
theorem changePicks_walk (ep : Int) (am : Option Addr) (nm cm : Nat) (m : List Int) (hn : m.length = nm) (hm : nm ≤ maxLen) (v : Int) (a : Option Addr) (n cap : Nat) (l : List Cg) (hl : l.length ≤ maxLen) (hb : ∀ x, x ∈ l → cgR x) (w : World) (hI : IntsIn w am m) (hR : Reads (fun k => k < w.heap.size) w (.slice a n cap) (dCgs l)) :
    Calls Try.prog 5 #[.agg #[.int .i64 ep, .slice am nm cm], .int .i64 v, .slice a n cap] w fun e w' => e = .returned (.bool true) ∧ Below w.heap.size w w' := by
  have HL : Hid (∀ u : World, Calls Try.prog 9 #[] u fun e w' => e = .returned (.bool true) ∧ Below u.heap.size u w') := hid ulives_any
  have H0 : Hid (BxAt (w.alloc (.cells #[.int .i64 ep, .slice am nm cm] 34)) w.heap.size [.int .i64 ep, .slice am nm cm] 34 ∧ Below w.heap.size w (w.alloc (.cells #[.int .i64 ep, .slice am nm cm] 34))) := hid ⟨heap_alloc_last w _, (Below.refl w.heap.size w).alloc (Nat.le_refl _) _⟩
  have HY0 : Hid (∀ u : World, Below w.heap.size w u → Calls Try.prog 15 #[.agg #[.int .i64 ep, .slice am nm cm], .int .i64 v, .slice a n cap] u fun e w' => PkPost ep m v l u e w') := hid (fun u hu => wpick_any ep am nm cm m hn hm v a n cap l hl hb u (hI.keep hu (Nat.le_refl _)) (hR.under hu (Nat.le_refl _)))
  have x0 := H0.out.1.cell 0 _ rfl; have x1 := H0.out.1.cell 1 _ rfl
  by_cases he : rfE ep m v l = 0
  · have HX : Hid (∀ u : World, Below w.heap.size w u → Calls Try.prog 14 #[.agg #[.int .i64 ep, .slice am nm cm], .int .i64 v, .slice a n cap] u fun e w' => ∃ g2, e = .returned (.tuple #[.slice (some ⟨g2, 0, none⟩) (pkL ep (allC l)).length (pkL ep (allC l)).length, .int .i64 0]) ∧ RqsIn w' (some ⟨g2, 0, none⟩) ((pkL ep (allC l)).map normR) ∧ Below u.heap.size u w') := hid (fun u hu => by
      have h := zpick_yes ep am nm cm m hn hm v a n cap l hl hb u (fun k hk => Nat.lt_of_lt_of_le hk hu.size) (hI.keep hu (Nat.le_refl _)) (hR.under hu (Nat.le_refl _)) he
      rw [show (pkN ep l).length = (pkL ep (allC l)).length by rw [pkN, List.length_map]] at h
      exact h.mono (fun e w' ⟨g2, h1, h2, _, h4⟩ => ⟨g2, h1, rqs_box h2, h4⟩))
    have HY : Hid (∀ u : World, Below w.heap.size w u → Calls Try.prog 15 #[.agg #[.int .i64 ep, .slice am nm cm], .int .i64 v, .slice a n cap] u fun e w' => ∃ b c, e = .returned (.tuple #[.slice b (pkL ep (allC l)).length c, .int .i64 0]) ∧ RqsIn w' b (pkL ep (allC l)) ∧ Below u.heap.size u w') := hid (fun u hu => (HY0.out u hu).mono (fun e w' ⟨h1, h2⟩ => by
      rcases h2 with ⟨h, _⟩ | ⟨_, u2, h3, h4⟩
      · exact absurd he h
      · obtain ⟨b, c, rfl, h5⟩ := rqs_own rfl h4
        exact ⟨b, c, h3, h5, h1⟩))
    have HLn : Hid ((pkL ep (allC l)).length ≤ 1000) := hid (by rw [pkL_len]; have := lstOf_le ep (allC l); omega)
    generalize pkL ep (allC l) = pk at HX HY HLn
    obtain ⟨k, ek⟩ : ∃ k, k = pk.length := ⟨_, rfl⟩
    rw [← ek] at HX HY HLn
    have HK := hid ek
    have HS : Hid (∀ (u : World) (g2 : Nat) (b : Option Addr) (c : Nat), RqsIn u (some ⟨g2, 0, none⟩) (pk.map normR) → RqsIn u b pk → Calls Try.prog 16 #[.slice (some ⟨g2, 0, none⟩) k k, .slice b k c] u fun e w' => e = .returned (.bool true) ∧ Below u.heap.size u w') := hid (fun u g2 b c h1 h2 => wsame16_yes _ k b c k (pk.map normR) pk (by rw [List.length_map, HK.out]) HK.out.symm HLn.out (fun j hj => norm_all pk j (by rw [← HK.out]; exact hj)) u h1 h2)
    clear hn hm hl hb hI hR he HY0 ek
    go_enter Try.func5, Try.ntmps5
    go_wp2_with (first
      | (have := H3; go_at_call 16; go_must (refine (HS.out _ _ _ _ H3.out.2.1 H3.out.2.2).mono ?_); rintro e w4 ⟨rfl, hb⟩; have H4 := hid (H3.out.1.trans (hb.mono H3.out.1.size)); clear hb)
      | (have := H2; go_at_call 15; go_must (refine (HY.out _ H2.out.2.1).mono ?_); rintro e w3 ⟨b, c, rfl, hr, hb⟩; have H3 : Hid (Below w.heap.size w w3 ∧ RqsIn w3 (some ⟨g2, 0, none⟩) (pk.map normR) ∧ RqsIn w3 b pk) := hid ⟨H2.out.2.1.trans (hb.mono H2.out.2.1.size), H2.out.2.2.keep hb, hr⟩; clear hb hr x0 x1)
      | (have := H1; go_at_call 14; go_must (refine (HX.out _ H1.out.2).mono ?_); rintro e w2 ⟨g2, rfl, hr, hb⟩; have H2 : Hid (BxAt w2 w.heap.size [.int .i64 ep, .slice am nm cm] 34 ∧ Below w.heap.size w w2 ∧ RqsIn w2 (some ⟨g2, 0, none⟩) (pk.map normR)) := hid ⟨H1.out.1.keep hb, H1.out.2.trans (hb.mono H1.out.2.size), hr⟩; clear hb hr x0 x1; have x0 := H2.out.1.cell 0 _ rfl; have x1 := H2.out.1.cell 1 _ rfl)
      | (go_at_call 9; go_must (refine (HL.out _).mono ?_); rintro e w1 ⟨rfl, hb⟩; have H1 : Hid (BxAt w1 w.heap.size [.int .i64 ep, .slice am nm cm] 34 ∧ Below w.heap.size w w1) := hid ⟨H0.out.1.keep hb, H0.out.2.trans (hb.mono H0.out.2.size)⟩; clear hb x0 x1; have x0 := H1.out.1.cell 0 _ rfl; have x1 := H1.out.1.cell 1 _ rfl))
    go_ret
    exact ⟨by simp, H4.out⟩
  · have HX : Hid (∀ u : World, Below w.heap.size w u → Calls Try.prog 14 #[.agg #[.int .i64 ep, .slice am nm cm], .int .i64 v, .slice a n cap] u fun e w' => e = .returned (.tuple #[.slice none 0 0, .int .i64 (rfE ep m v l)]) ∧ Below u.heap.size u w') := hid (fun u hu => zpick_no ep am nm cm m hn hm v a n cap l hl hb u (hI.keep hu (Nat.le_refl _)) (hR.under hu (Nat.le_refl _)) he)
    have HY : Hid (∀ u : World, Below w.heap.size w u → Calls Try.prog 15 #[.agg #[.int .i64 ep, .slice am nm cm], .int .i64 v, .slice a n cap] u fun e w' => e = .returned (.tuple #[.slice none 0 0, .int .i64 (rfE ep m v l)]) ∧ Below u.heap.size u w') := hid (fun u hu => (HY0.out u hu).mono (fun e w' ⟨h1, h2⟩ => by
      rcases h2 with ⟨_, h⟩ | ⟨h, _⟩
      · exact ⟨h, h1⟩
      · exact absurd h he))
    have HS : Hid (∀ u : World, Calls Try.prog 16 #[.slice none 0 0, .slice none 0 0] u fun e w' => e = .returned (.bool true) ∧ Below u.heap.size u w') := hid (fun u => wsame16_yes none 0 none 0 0 [] [] rfl rfl (by decide) (fun j hj => by omega) u (.inl rfl) (.inl rfl))
    generalize rfE ep m v l = er at HX HY
    clear hn hm hl hb hI hR he HY0
    go_enter Try.func5, Try.ntmps5
    go_wp2_with (first
      | (have := H3; go_at_call 16; go_must (refine (HS.out _).mono ?_); rintro e w4 ⟨rfl, hb⟩; have H4 := hid (H3.out.2.trans (hb.mono H3.out.2.size)); clear hb)
      | (have := H2; go_at_call 15; go_must (refine (HY.out _ H2.out.2).mono ?_); rintro e w3 ⟨rfl, hb⟩; have H3 : Hid (BxAt w3 w.heap.size [.int .i64 ep, .slice am nm cm] 34 ∧ Below w.heap.size w w3) := hid ⟨H2.out.1.keep hb, H2.out.2.trans (hb.mono H2.out.2.size)⟩; clear hb x0 x1)
      | (have := H1; go_at_call 14; go_must (refine (HX.out _ H1.out.2).mono ?_); rintro e w2 ⟨rfl, hb⟩; have H2 : Hid (BxAt w2 w.heap.size [.int .i64 ep, .slice am nm cm] 34 ∧ Below w.heap.size w w2) := hid ⟨H1.out.1.keep hb, H1.out.2.trans (hb.mono H1.out.2.size)⟩; clear hb x0 x1; have x0 := H2.out.1.cell 0 _ rfl; have x1 := H2.out.1.cell 1 _ rfl)
      | (go_at_call 9; go_must (refine (HL.out _).mono ?_); rintro e w1 ⟨rfl, hb⟩; have H1 : Hid (BxAt w1 w.heap.size [.int .i64 ep, .slice am nm cm] 34 ∧ Below w.heap.size w w1) := hid ⟨H0.out.1.keep hb, H0.out.2.trans (hb.mono H0.out.2.size)⟩; clear hb x0 x1; have x0 := H1.out.1.cell 0 _ rfl; have x1 := H1.out.1.cell 1 _ rfl))
    go_ret
    exact ⟨by simp, H4.out⟩
end Go.Proofs.Ytpflcneoojakdaa
