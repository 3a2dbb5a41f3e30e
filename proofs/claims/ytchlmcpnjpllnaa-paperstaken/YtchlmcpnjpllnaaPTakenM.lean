/- PapersTaken: the walk. -/
import Derived.Test.YtchlmcpnjpllnaaPaVM
namespace Go.Proofs.Ytchlmcpnjpllnaa
open Go.RowKit

theorem taken_n (n : Int) : ∃ m : Nat, (4 ≤ m ∧ m ≤ 7) ∧ wrap64 (4 + wrap64 ((IntKind.u64.wrap n).tmod 4)) = (m : Int) := by
  have h0 : 0 ≤ IntKind.u64.wrap n := by
    simp [IntKind.wrap, IntKind.bits, IntKind.signed]
    omega
  generalize IntKind.u64.wrap n = x at h0
  rw [Int.tmod_eq_emod_of_nonneg h0]
  refine ⟨(4 + x % 4).toNat, ⟨by omega, by omega⟩, ?_⟩
  unfold wrap64
  omega
theorem taken_e (n : Int) : ∃ m : Nat, m < 1000 ∧ wrap64 ((IntKind.u64.wrap n).tmod 1000) = (m : Int) := by
  have h0 : 0 ≤ IntKind.u64.wrap n := by
    simp [IntKind.wrap, IntKind.bits, IntKind.signed]
    omega
  generalize IntKind.u64.wrap n = x at h0
  rw [Int.tmod_eq_emod_of_nonneg h0]
  refine ⟨(x % 1000).toNat, by omega, ?_⟩
  unfold wrap64
  omega
section
variable {o : Oper} {a : Act} {w : World} {K : Act → World → Prop} {Q : Exit → Act → World → Prop}
/-- Signatures copied into a row of one's own. -/
theorem owp_ownT (x y : Operand) (ho : o.op = .call { callee := .builtin .append, args := #[x, y], argTypes := #[33, 33] })
    (hx : a.eval x = .slice none 0 0) (ad : Option Addr) (n cap : Nat) (ps : List (Int × ByteArray)) (hy : a.eval y = .slice ad n cap) (hn : ps.length = n) (hS : PairsIn w ad ps) (hl : n * 24 ≤ 140737488355328)
    (h : ∀ v' w', Hid (w'.ownsRow w.heap.size 54 2 v' n (pC ps) ∧ Below w.heap.size w w') → K (a.put o.dst v') w') : o.wp Try.prog a w K Q := by
  obtain ⟨i0, hi0, hz0, hz1, hz2⟩ := info_parts Try.info54
  cases ad with
  | none =>
    obtain rfl : ps = [] := by rcases hS with h | ⟨g, off, ha, _⟩; exact h; cases ha
    obtain rfl : 0 = n := hn
    refine owp_value (v := .slice none 0 0) (w' := w) ?_ (h _ _ ⟨⟨rfl, .inl ⟨rfl, rfl⟩⟩, Below.refl _ _⟩)
    simp [execOp, ho, resolve, invoke, builtin, hx, hy, Builtin.append_, run_underlying Try.underlying33, sizeOf, typeInfo, hi0, Builtin.lenOf, Builtin.firstCells, Result.andThen]
  | some ad =>
    refine wp_append_own w x y 33 ho w.heap.size 54 i0 (.agg #[.int .i64 0, .string ⟨#[]⟩]) 2 24 Try.underlying33 hi0 hz0 hz1 hz2 rfl (by decide) (.slice none 0 0) 0 [] hx ⟨rfl, .inl ⟨rfl, rfl⟩⟩ ad n cap (pC ps) hy (by rw [pC_len, hn]) (fun j v hv => hS.cells j v hv) (pC_one ps) (by unfold maxLen; omega) (by omega) (Nat.le_refl _) (fun v' w' hown hgrow _ => ?_)
    rw [Nat.zero_add, List.nil_append] at hown
    exact h _ _ ⟨hown, (Below.refl _ _).grown hgrow (Nat.le_refl _) (fun k hk => by cases hk)⟩
/-- A signature behind one's own. -/
theorem owp_app_T (sl x : Operand) (ho : o.op = .call { callee := .builtin .append, args := #[sl, x], argTypes := #[33, 33] }) (B : Nat) (v : Value) (n : Nat) (l : List (Int × ByteArray))
    (hs : a.eval sl = v) (hO : w.ownsRow B 54 2 v n (pC l)) (g : Nat) (y : Int × ByteArray) (hx : a.eval x = .slice (some ⟨g, 0, none⟩) 1 1) (hc0 : w.cell? ⟨g, 0, none⟩ = some (.int .i64 y.1)) (hc1 : w.cell? ⟨g, 1, none⟩ = some (.string y.2)) (hB : B ≤ w.heap.size) (hlen : n + 1 ≤ 1000000)
    (h : ∀ v' w', Hid (w'.ownsRow B 54 2 v' (n + 1) (pC (l ++ [y]))) → Hid (w.grownBy w' v.ownBlock) → K (a.put o.dst v') w') : o.wp Try.prog a w K Q := by
  obtain ⟨i0, hi0, hz0, hz1, hz2⟩ := info_parts Try.info54
  obtain ⟨v', w', hr, h2, h3, h4⟩ := run_append_own (P := Try.prog) w B 33 o.type 54 i0 (.agg #[.int .i64 0, .string ⟨#[]⟩]) 2 24 Try.underlying33 hi0 hz0 hz1 hz2 rfl (by decide) v n (pC l) hO ⟨g, 0, none⟩ 1 1 [.int .i64 y.1, .string y.2] rfl (fun j u hj => by
    match j, hj with
    | 0, hj => simp at hj; subst hj; simpa [Addr.add] using hc0
    | 1, hj => simp at hj; subst hj; simpa [Addr.add] using hc1) (by simp [Value.oneCell']) (by unfold maxLen; omega) (by omega) hB
  refine owp_value (v := v') (w' := w') ?_ (h v' w' (by rw [pC_app]; exact h2) h3)
  simp [execOp, ho, resolve, invoke, builtin, hs, hx, hr, Result.andThen]
end
theorem PairsIn.tail {w : World} {g off : Nat} {ss : List (Int × ByteArray)} (h : PairsIn w (some ⟨g, off, none⟩) ss) : PairsIn w (some ⟨g, off + 2, none⟩) (ss.drop 1) := by
  rcases h with h | ⟨g', off', ha, hg, hc⟩
  · exact .inl (by rw [h]; rfl)
  · cases ha
    refine .inr ⟨g, off + 2, rfl, hg, fun j p hj => ?_⟩
    have := hc (1 + j) p (by rwa [List.getElem?_drop] at hj)
    rw [show off + (1 + j) * 2 = off + 2 + j * 2 by omega] at this
    exact this
theorem sgs_sizes (seed T : ByteArray) (q : Nat) (p : Int × ByteArray) (hp : p ∈ sgsG seed T q) : p.2.size ≤ maxLen := by
  obtain ⟨i, hi, rfl⟩ := List.getElem_of_mem hp
  have h := sig_at seed T q i (by rwa [sgsG_len] at hi)
  rw [List.getElem?_eq_getElem hi] at h
  rw [Option.some.inj h]
  show (gsigS (sdS seed i) 3 0 T).size ≤ maxLen
  rw [gsigN_size _ _ _ _ (by decide)]
  decide
theorem turn_sizes (seed T : ByteArray) (q : Nat) (p : Int × ByteArray) (hp : p ∈ turnG seed T q) : p.2.size ≤ maxLen := by
  rw [turnG, List.mem_append] at hp
  rcases hp with hp | hp
  · exact sgs_sizes seed T q p (List.mem_of_mem_drop hp)
  · rw [List.mem_singleton.1 hp]
    show (gsigS (sdS seed 0) 3 0 T).size ≤ maxLen
    rw [gsigN_size _ _ _ _ (by decide)]
    decide
theorem certS_max (ep : Int) (ps ss : List (Int × ByteArray)) : (certS ep ps ss).size ≤ maxLen := by
  rw [certS]
  split
  · next h =>
    obtain ⟨h1, h2, h3⟩ := certE_ok h
    have hs := sigsB_len ss ss.length h2 (Nat.le_refl _) ss.length (Nat.le_refl _)
    rw [List.take_of_length_le (Nat.le_refl _)] at hs
    have hb := bytesS_size ep ps
    rw [mk_size, certB, List.length_append, List.length_append, List.length_append, be_len, be_len, data_len]
    unfold maxLen
    omega
  · decide
/-- What was laid ahead of the signing: the old paper at bo, the next one at bn, the signers. -/
structure TkSt (w0 w : World) (bo bn : Nat) (E N : Nat) (v1 v2 u : Value) (bs : Nat → Nat) (seed sx : ByteArray) : Prop where
  old : PpAt w bo (E : Int) v1 24
  next : PpAt w bn ((E + 1 : Nat) : Int) v2 24
  seats : w.ownsRow w0.heap.size 44 2 v1 N (pC (seatsG seed N))
  nseats : w.ownsRow w0.heap.size 44 2 v2 4 (pC (seatsG sx 4))
  ptr : w.ownsRow w0.heap.size 51 1 u N (gC bs N)
  ge : ∀ i, i < N → w0.heap.size ≤ bs i
  bel : Below w0.heap.size w0 w
theorem TkSt.ng {w0 w w' : World} {bo bn : Nat} {E N : Nat} {v1 v2 u : Value} {bs : Nat → Nat} {seed sx : ByteArray} (h : TkSt w0 w bo bn E N v1 v2 u bs seed sx) (hn : Ng w0.heap.size w w') : TkSt w0 w' bo bn E N v1 v2 u bs seed sx :=
  ⟨h.old.ng hn, h.next.ng hn, own_ng h.seats (by decide) hn, own_ng h.nseats (by decide) hn, own_ng h.ptr (by decide) hn, h.ge, h.bel.trans (hn.below h.bel.size)⟩
theorem TkSt.keep {w0 w w' : World} {bo bn : Nat} {E N : Nat} {v1 v2 u : Value} {bs : Nat → Nat} {seed sx : ByteArray} (h : TkSt w0 w bo bn E N v1 v2 u bs seed sx) (hb : Below w.heap.size w w') : TkSt w0 w' bo bn E N v1 v2 u bs seed sx := h.ng (Ng.of hb)
set_option maxRecDepth 100000 in
set_option maxHeartbeats 6400000 in
theorem papersTaken_walk (n epoch : Int) (seed : ByteArray) (hsd : seed.size ≤ maxLen) (w : World) :
    Calls Try.prog 7 #[.int .i64 n, .int .i64 epoch, .string seed] w fun e w' => e = .returned (.bool true) ∧ Below w.heap.size w w' := by
  have hs63 : (seed.size : Int) ≤ 9223372036854775807 := by unfold maxLen at hsd; omega
  by_cases h100 : 100 < seed.size
  · have k100 : (100 : Int) < (seed.size : Int) := by omega
    clear hsd
    go_enter Try.func7, Try.ntmps7
    go_wp2_with (first
      | (go_at_call 9; have := H1; refine (alives_any _).mono ?_; rintro e w2 ⟨rfl, hb2⟩; have H2 := hid (H1.out.trans (hb2.mono H1.out.size)); clear hb2)
      | (go_at_call 9; refine (alives_any _).mono ?_; rintro e w1 ⟨rfl, hb1⟩; have H1 := hid hb1; clear hb1))
    go_ret
    exact ⟨rfl, H2.out⟩
  · have k100 : ¬ ((100 : Int) < (seed.size : Int)) := by omega
    have hsz : seed.size ≤ 100 := by omega
    obtain ⟨N, hN, eN⟩ := taken_n n
    obtain ⟨E, hE, eE⟩ := taken_e epoch
    obtain ⟨Q, hQ, h3, h5, hQN⟩ := quo_four N hN
    obtain ⟨sx, ex⟩ : ∃ sx, sx = seed ++ (⟨#[120]⟩ : ByteArray) := ⟨_, rfl⟩
    have HX : Hid (seed ++ (⟨#[120]⟩ : ByteArray) = sx) := hid ex.symm
    have hsx : sx.size ≤ 101 := by rw [ex, ByteArray.size_append]; show seed.size + 1 ≤ 101; omega
    have hE0 : (0 : Int) ≤ (E : Int) := Int.natCast_nonneg _
    have hE1 : (E : Int) < 1000 := by omega
    have hN4 : (4 : Int) ≤ (N : Int) := by omega
    have hN7 : (N : Int) ≤ 7 := by omega
    have HPo : Hid (∀ u : World, Calls Try.prog 22 #[.int .i64 (E : Int), .int .i64 (N : Int), .string seed] u fun e w' => ∃ v x, e = .returned (.tuple #[.agg #[.int .i64 (E : Int), v], x]) ∧ w'.ownsRow u.heap.size 44 2 v N (pC (seatsG seed N)) ∧ ∃ bs, w'.ownsRow u.heap.size 51 1 x N (gC bs N) ∧ (∀ i, i < N → SgAt w' (bs i) (sdS seed i) 3 0 ∧ u.heap.size ≤ bs i) ∧ Below u.heap.size u w') := hid (fun u => paper_any E N (by omega) seed (by omega) u)
    have HPn : Hid (∀ u : World, Calls Try.prog 22 #[.int .i64 ((E : Int) + 1), .int .i64 4, .string sx] u fun e w' => ∃ v x, e = .returned (.tuple #[.agg #[.int .i64 ((E : Int) + 1), v], x]) ∧ w'.ownsRow u.heap.size 44 2 v 4 (pC (seatsG sx 4)) ∧ ∃ bs, w'.ownsRow u.heap.size 51 1 x 4 (gC bs 4) ∧ (∀ i, i < 4 → SgAt w' (bs i) (sdS sx i) 3 0 ∧ u.heap.size ≤ bs i) ∧ Below u.heap.size u w') := hid (fun u => paper_any (E + 1) 4 (by decide) sx (by omega) u)
    have hr := seatsG_right sx (E + 1) 4 (by omega) (by decide)
    obtain ⟨T, eT⟩ : ∃ T, T = bytesS ((E + 1 : Nat) : Int) (seatsG sx 4) := ⟨_, rfl⟩
    have HYB : Hid (∀ (u : World) (ad : Option Addr) (cp : Nat), PairsIn u ad (seatsG sx 4) → Calls Try.prog 10 #[.agg #[.int .i64 ((E : Int) + 1), .slice ad 4 cp]] u fun e w' => e = .returned (.tuple #[.string T, .int .i64 0]) ∧ Below u.heap.size u w') := hid (fun u ad cp hu => by
      have := ybytes_any ((E + 1 : Nat) : Int) ad 4 cp (seatsG sx 4) (seatsG_len sx 4) (by decide) u hu
      rwa [show bytesE ((E + 1 : Nat) : Int) (seatsG sx 4) = 0 by rw [bytesE, hr]; rfl, ← eT] at this)
    have HQu : Hid (∀ u : World, Calls Try.prog 23 #[.int .i64 (N : Int)] u fun e w' => e = .returned (.int .i64 (Q : Int)) ∧ Below u.heap.size u w') := hid (fun u => by have := cquorum_any (N : Int) (by omega) u; rwa [hQ] at this)
    have HT0 := hid eT
    have HT1 : Hid (T.size ≤ 1000) := hid (by rw [eT]; have := bytesS_size ((E + 1 : Nat) : Int) (seatsG sx 4); omega)
    clear hsd h100 hr ex eT
    go_enter Try.func7, Try.ntmps7
    go_wp2_with (first
      | (go_at_call 9; refine (alives_any _).mono ?_; rintro e w1 ⟨rfl, hb1⟩; have H1 := hid hb1; clear hb1)
      | (go_at_call 22; have := H2; rw [HX.out]; refine (HPn.out _).mono ?_; rintro e w3 ⟨v3, x3, rfl, ho3, bs3, hp3, hs3, hb3⟩
         obtain ⟨ad3, cp3, hv3, hi3⟩ := own_pairs (ps := seatsG sx 4) (by rw [seatsG_len]; exact ho3)
         subst hv3
         rw [seatsG_len] at ho3 ⊢
         have H3 := hid (And.intro ho3 (And.intro hi3 hb3))
         clear ho3 hp3 hs3 hb3 hi3)
      | (go_at_call 22; refine (HPo.out _).mono ?_; rintro e w2 ⟨v2, x2, rfl, ho2, bs, hp2, hs2, hb2⟩
         obtain ⟨ad2, cp2, hv2, hi2⟩ := own_pairs (ps := seatsG seed N) (by rw [seatsG_len]; exact ho2)
         subst hv2
         rw [seatsG_len] at ho2 ⊢
         obtain ⟨gp, cpp, hx2⟩ : ∃ g c, x2 = .slice (some ⟨g, 0, none⟩) N c := (by rcases hp2.2 with ⟨_, h0⟩ | ⟨g, cap, cur, hv, _⟩ <;> first | (exfalso; omega) | exact ⟨_, _, hv⟩)
         subst hx2
         have H2 := hid (And.intro ho2 (And.intro hp2 (And.intro hs2 hb2)))
         clear ho2 hp2 hs2 hb2 hi2)
      | (go_at_call 10; refine (HYB.out _ _ _ (by exact H3.out.2.1.alloc _)).mono ?_; rintro e w4 ⟨rfl, hb4⟩; have H4 := hid hb4; clear hb4)
      | (go_at_call 23; refine (HQu.out _).mono ?_; rintro e w5 ⟨rfl, hb5⟩; have H5 := hid (H4.out.trans (hb5.mono H4.out.size)); clear hb5))
    have H6 : Hid (TkSt w w5 w2.heap.size w3.heap.size E N (.slice ad2 N cp2) (.slice ad3 4 cp3) (.slice (some ⟨gp, 0, none⟩) N cpp) bs seed sx ∧ Fresh w5 bs seed 0 N) := hid (by
      obtain ⟨a1, a2, a3, a4⟩ := H2.out
      obtain ⟨c1, c2, c3⟩ := H3.out
      have k1 : Below w.heap.size w w2 := H1.out.trans (a4.mono H1.out.size)
      have k2 := (k1.alloc k1.size (.cells #[.int .i64 (E : Int), .slice ad2 N cp2] 24)).trans (c3.mono (by have := k1.size; simp; omega))
      have k3 := (k2.alloc k2.size (.cells #[.int .i64 ((E : Int) + 1), .slice ad3 4 cp3] 24)).trans (H5.out.mono (by have := k2.size; simp; omega))
      refine ⟨⟨(((PpAt.new w2 (E : Int) (.slice ad2 N cp2) 24).keep c3).alloc _).keep H5.out, (PpAt.new w3 ((E : Int) + 1) (.slice ad3 4 cp3) 24).keep H5.out, ?_, ?_, ?_, fun i hi => Nat.le_trans H1.out.size (a3 i hi).2, k3⟩, fun i _ hi => ?_⟩
      · exact (ownsRow_keep ((ownsRow_keep (a1.alloc _) c3).alloc _) H5.out).mono H1.out.size
      · exact (ownsRow_keep (c1.alloc _) H5.out).mono (by have := k1.size; simp; omega)
      · exact (ownsRow_keep ((ownsRow_keep (a2.alloc _) c3).alloc _) H5.out).mono H1.out.size
      · exact (((((a3 i hi).1.keep ((Below.refl _ _).alloc (Nat.le_refl _) _)).keep c3).keep ((Below.refl _ _).alloc (Nat.le_refl _) _)).keep H5.out))
    obtain ⟨bo, ebo⟩ : ∃ bo, bo = w2.heap.size := ⟨_, rfl⟩
    obtain ⟨bn, ebn⟩ : ∃ bn, bn = w3.heap.size := ⟨_, rfl⟩
    rw [← ebo, ← ebn] at H6
    rw [← ebo, ← ebn]
    clear ebo ebn H1 H2 H3 H4 H5
    obtain ⟨i0, hi0, hz0, hz1, hz2⟩ := info_parts Try.info54
    have HSg : Hid (∀ (j : Nat) (u : World) (b : Nat), SgAt u b (sdS seed j) 3 0 → Calls Try.prog 24 #[.pointer (some ⟨b, 0, none⟩), .string T] u fun e w' => e = .returned (.tuple #[.string (gsigS (sdS seed j) 3 0 T), .int .i64 0]) ∧ SgAt w' b (sdS seed j) 3 1 ∧ But b u w') := hid (fun j u b hu => ssign_yes b (sdS seed j) (by rw [sdS_size]; omega) 3 0 (by decide) (by decide) T (by have := HT1.out; omega) u hu)
    have hQ5 : (Q : Int) ≤ 5 := by omega
    have hQN2 : (Q : Int) ≤ (N : Int) := by omega
    go_loopw [14, 15] (fun v i wr => ∃ j : Nat, j ≤ Q ∧ i = .int .i64 (j : Int) ∧ Fresh wr bs seed j N ∧ wr.ownsRow w5.heap.size 54 2 v j (pC (sgsG seed T j)) ∧ Ng w.heap.size w5 wr)
      (fun _ i _ => ((Q : Int) - intOf i).toNat)
    case atStart => exact ⟨0, Nat.zero_le _, rfl, H6.out.2, ⟨rfl, .inl ⟨rfl, rfl⟩⟩, Ng.refl _ _⟩
    case round =>
      obtain ⟨j, hj, rfl, hfr, hown, hng⟩ := hrel
      have HR := hid (And.intro hfr (And.intro hown hng))
      clear hfr hown hng
      by_cases hjn : j = Q
      · have hj1 : ¬ ((j : Int) < (Q : Int)) := by omega
        have hR := HR.out.2
        rw [hjn] at hR
        obtain ⟨gs, csp, hu, hcs⟩ : ∃ g c, u14 = .slice (some ⟨g, 0, none⟩) Q c ∧ Q ≤ c := (by rcases hR.1.2 with ⟨_, h0⟩ | ⟨g, cap, cur, hv, _, _, hnc, _⟩ <;> first | (exfalso; omega) | exact ⟨_, _, hv, hnc⟩)
        subst hu
        have hSg : PairsIn wr (some ⟨gs, 0, none⟩) (sgsG seed T Q) := by
          obtain ⟨ad, cp, hv, hi⟩ := own_pairs (ps := sgsG seed T Q) (by rw [sgsG_len]; exact hR.1)
          rw [sgsG_len] at hv
          cases hv
          exact hi
        have HS := hid hSg
        have HT := hid (H6.out.1.ng hR.2)
        have hcs1 : ¬ (csp = 1) := by omega
        have hcs2 : (Q : Int) ≤ (csp : Int) := by omega
        clear hj hjn hR hSg HR
        obtain ⟨F1, eF1⟩ : ∃ F, F = certS ((E + 1 : Nat) : Int) (seatsG sx 4) (sgsG seed T Q) := ⟨_, rfl⟩
        obtain ⟨F2, eF2⟩ : ∃ F, F = certS ((E + 1 : Nat) : Int) (seatsG sx 4) ((sgsG seed T Q).drop 1) := ⟨_, rfl⟩
        obtain ⟨F3, eF3⟩ : ∃ F, F = certS ((E + 1 : Nat) : Int) (seatsG sx 4) (turnG seed T Q) := ⟨_, rfl⟩
        have hz : ∀ (ss : List (Int × ByteArray)) (k : Nat) (F : ByteArray), ss.length = k → k ≤ 100 → certE ((E + 1 : Nat) : Int) (seatsG sx 4) ss = 0 → (∀ p, p ∈ ss → p.2.size ≤ maxLen) → F = certS ((E + 1 : Nat) : Int) (seatsG sx 4) ss → ∀ (u : World) (ad : Option Addr) (cp : Nat) (bd : Option Addr) (cq : Nat), PairsIn u ad (seatsG sx 4) → PairsIn u bd ss → Calls Try.prog 15 #[.agg #[.int .i64 ((E : Int) + 1), .slice ad 4 cp], .slice bd k cq] u fun e w' => e = .returned (.tuple #[.string F, .int .i64 0]) ∧ Below u.heap.size u w' := fun ss k F hk h100 hc hp hF u ad cp bd cq hu hv => by
          have := ycertify_any ((E + 1 : Nat) : Int) ad 4 cp (seatsG sx 4) (seatsG_len sx 4) (by decide) bd k cq ss hk (by unfold maxLen; omega) hp u hu hv
          rwa [hc, ← hF] at this
        have HCf := hid (hz (sgsG seed T Q) Q F1 (sgsG_len _ _ _) (by omega) (cert_full seed sx E Q (by omega) h3 h5 _) (fun p hp => sgs_sizes seed T Q p hp) eF1)
        have HCl := hid (hz ((sgsG seed T Q).drop 1) (Q - 1) F2 (by rw [List.length_drop, sgsG_len]) (by omega) (cert_less seed sx E Q (by omega) h3 h5 _) (fun p hp => sgs_sizes seed T Q p (List.mem_of_mem_drop hp)) eF2)
        have HCw := hid (hz (turnG seed T Q) Q F3 (turnG_len _ _ _ (by omega)) (by omega) (cert_turn seed sx E Q (by omega) h3 h5 _) (fun p hp => turn_sizes seed T Q p hp) eF3)
        have hc1 := check_full seed sx E N Q (by omega) hN hQ h3 h5 hQN
        have hc2 := check_less seed sx E N Q (by omega) hN hQ h3 h5 hQN
        have hc3 := check_turn seed sx E N Q (by omega) hN h3 h5
        have hc4 := check_next seed sx E Q (by omega) h3 h5
        have hpp := chk_paper (E : Int) _ (seatsG seed N) _ _ (cert_full seed sx E Q (by omega) h3 h5 _) hc1
        rw [← HT0.out] at hc1 hc2 hc3 hc4 hpp
        rw [← eF1] at hc1 hc4 hpp
        rw [← eF2] at hc2
        rw [← eF3] at hc3
        rw [show ((E + 1 : Nat) : Int) = (E : Int) + 1 by omega] at hc4
        have hFz : F1.size ≤ maxLen ∧ F2.size ≤ maxLen ∧ F3.size ≤ maxLen := by
          rw [eF1, eF2, eF3]
          exact ⟨certS_max _ _ _, certS_max _ _ _, certS_max _ _ _⟩
        have HK1 : Hid (∀ u : World, PairsIn u ad2 (seatsG seed N) → Calls Try.prog 18 #[.agg #[.int .i64 (E : Int), .slice ad2 N cp2], .string F1] u fun e w' => ∃ ad cp, e = .returned (.tuple #[.agg #[.int .i64 ((E : Int) + 1), .slice ad 4 cp], .int .i64 0]) ∧ PairsIn w' ad (seatsG sx 4) ∧ Below u.heap.size u w') := hid (fun u hu => (ycheck_any (E : Int) ad2 N cp2 (seatsG seed N) (seatsG_len seed N) (by unfold maxLen; omega) F1 hFz.1 u hu).mono fun e w' ⟨v, he, ho, hb⟩ => by
          rw [hpp.2] at ho
          obtain ⟨ad, cp, hv, hi⟩ := own_pairs ho
          rw [seatsG_len] at hv
          exact ⟨ad, cp, by rw [he, hv, hpp.1, hc1]; rfl, hi, hb⟩)
        have hno : ∀ (ep : Int) (ad : Option Addr) (m cp : Nat) (ps : List (Int × ByteArray)) (F : ByteArray) (er : Int), ps.length = m → m ≤ 100 → F.size ≤ maxLen → chkE ep ps F = er → ∀ u : World, PairsIn u ad ps → Calls Try.prog 18 #[.agg #[.int .i64 ep, .slice ad m cp], .string F] u fun e w' => ∃ z ad' m' cp', e = .returned (.tuple #[.agg #[.int .i64 z, .slice ad' m' cp'], .int .i64 er]) ∧ Below u.heap.size u w' := fun ep ad m cp ps F er hm h100 hF he u hu => (ycheck_any ep ad m cp ps hm (by unfold maxLen; omega) F hF u hu).mono fun e w' ⟨v, hr, ho, hb⟩ => by
          obtain ⟨ad', cp', hv, hi⟩ := own_pairs ho
          exact ⟨_, ad', _, cp', by rw [hr, hv, he], hb⟩
        have HK2 := hid (hno (E : Int) ad2 N cp2 (seatsG seed N) F2 15 (seatsG_len _ _) (by omega) hFz.2.1 hc2)
        have HK3 := hid (hno (E : Int) ad2 N cp2 (seatsG seed N) F3 16 (seatsG_len _ _) (by omega) hFz.2.2 hc3)
        have HK4 := hid (hno ((E : Int) + 1) ad3 4 cp3 (seatsG sx 4) F1 12 (seatsG_len _ _) (by omega) hFz.1 hc4)
        clear eF1 eF2 eF3 hz hc1 hc2 hc3 hc4 hpp hFz hno
        have n0 := HT.out.next.c0
        have n1 := HT.out.next.c1
        have HNs : Hid (∀ u : World, TkSt w u bo bn E N (.slice ad2 N cp2) (.slice ad3 4 cp3) (.slice (some ⟨gp, 0, none⟩) N cpp) bs seed sx → PairsIn u ad3 (seatsG sx 4) ∧ PairsIn u ad2 (seatsG seed N)) := hid (fun u hu => by
          constructor
          · obtain ⟨ad, cp, hv, hi⟩ := own_pairs (ps := seatsG sx 4) (by rw [seatsG_len]; exact hu.nseats)
            rw [seatsG_len] at hv
            cases hv
            exact hi
          · obtain ⟨ad, cp, hv, hi⟩ := own_pairs (ps := seatsG seed N) (by rw [seatsG_len]; exact hu.seats)
            rw [seatsG_len] at hv
            cases hv
            exact hi)
        have hQ1 : (1 : Int) ≤ (Q : Int) := by omega
        have hQ2 : (3 : Int) ≤ (Q : Int) := by omega
        go_wp2_with (first
          | (go_at_call 15; refine (HCf.out _ _ _ _ _ (by exact (HNs.out _ HT.out).1) (by exact HS.out)).mono ?_; rintro e w7 ⟨rfl, hb7⟩; have H7 := hid (And.intro (HT.out.keep hb7) (HS.out.keep hb7 (Nat.le_refl _))); clear hb7 n0 n1))
        have m0 := H7.out.1.next.c0
        have m1 := H7.out.1.next.c1
        have hE2 : ((E + 1 : Nat) : Int) = (E : Int) + 1 := by omega
        rw [hE2] at m0
        go_region_law
          (go_simp; go_at_call 15
           refine (HCl.out _ _ _ _ _ (by exact (HNs.out _ H7.out.1).1.keep (Below.refl _ _).drew (Nat.le_refl _)) (by exact H7.out.2.tail.keep (Below.refl _ _).drew (Nat.le_refl _))).mono ?_
           rintro e w8 ⟨rfl, hb8⟩
           have H8 := hid (And.intro (H7.out.1.keep ((Below.refl _ _).drew.trans hb8)) (H7.out.2.keep ((Below.refl _ _).drew.trans hb8) (Nat.le_refl _)))
           clear hb8)
        clear H7 m0 m1
        obtain ⟨G0, eG0⟩ : ∃ G, G = gsigS (sdS seed 0) 3 0 T := ⟨_, rfl⟩
        have HG0 : Hid (turnG seed T Q = (sgsG seed T Q).drop 1 ++ [((0 : Int), G0)] ∧ (turnG seed T Q).length = Q ∧ ((sgsG seed T Q).drop 1).length = Q - 1 ∧ Q - 1 + 1 = Q) := hid ⟨by rw [eG0]; rfl, turnG_len _ _ _ (by omega), by rw [List.length_drop, sgsG_len], by omega⟩
        have HE0 : Hid (∀ u : World, PairsIn u (some ⟨gs, 0, none⟩) (sgsG seed T Q) → gs < u.heap.size ∧ u.cell? ⟨gs, 0, none⟩ = some (.int .i64 0) ∧ u.cell? ⟨gs, 1, none⟩ = some (.string G0)) := hid (fun u hu => by
          obtain ⟨g, off, ha, hg, h1, h2⟩ := hu.at 0 _ (sig_at seed T Q 0 (by omega))
          cases ha
          rw [eG0]
          exact ⟨hg, h1, h2⟩)
        obtain ⟨hlt8, e0, e1⟩ := HE0.out w8 H8.out.2
        have HL8 := hid hlt8
        have e0a : ∀ o : Obj, (w8.alloc o).cell? ⟨gs, 0, none⟩ = some (.int .i64 0) := fun o => (HE0.out _ (H8.out.2.alloc o)).2.1
        have e1a : ∀ o : Obj, (w8.alloc o).cell? ⟨gs, 1, none⟩ = some (.string G0) := fun o => (HE0.out _ (H8.out.2.alloc o)).2.2
        have hQ3 : Q - 1 ≤ 10 := by omega
        have HQ3 := hid hQ3
        have hQ0 : 0 < Q := by omega
        clear hlt8 eG0 hQ3
        go_wp2_with fail
        apply by_key
        case m =>
          intro key
          go_region_law
            (first
              | (refine step_of rfl (owp_ownT _ _ rfl rfl _ (Q - 1) _ ((sgsG seed T Q).drop 1) rfl HG0.out.2.2.1 (by first | exact H8.out.2.tail.keep (Below.refl _ _).drew (Nat.le_refl _) | exact H8.out.2.tail.keep ((Below.refl _ _).alloc (Nat.le_refl _) _).drew (Nat.le_refl _)) (by have := HQ3.out; omega) ?_); intro v9 w9 h9
                 have H9 : Hid (Below w8.heap.size w8 w9) := hid (by first | exact (Below.refl _ _).drew.trans h9.out.2 | exact ((Below.refl w8.heap.size w8).alloc (Nat.le_refl _) _).drew.trans (h9.out.2.mono (by simp)))
                 have k0 : w9.cell? ⟨gs, 0, none⟩ = some (.int .i64 0) := (HE0.out _ (H8.out.2.keep H9.out (Nat.le_refl _))).2.1
                 have k1 : w9.cell? ⟨gs, 1, none⟩ = some (.string G0) := (HE0.out _ (H8.out.2.keep H9.out (Nat.le_refl _))).2.2)
              | (refine step_of rfl (owp_app_T _ _ rfl w8.heap.size v9 (Q - 1) ((sgsG seed T Q).drop 1) rfl (by first | exact h9.out.1.alloc _ | exact h9.out.1.mono (by simp)) _ ((0 : Int), G0) rfl (by first | exact (cell_two (heap_alloc_last w9 (.cells #[.int .i64 0, .string G0] 54))).1 | exact (h9.out.2.cell (p := ⟨w8.heap.size, 0, none⟩) (by simp)).trans (cell_two (heap_alloc_last w8 (.cells #[.int .i64 0, .string G0] 54))).1) (by first | exact (cell_two (heap_alloc_last w9 (.cells #[.int .i64 0, .string G0] 54))).2 | exact (h9.out.2.cell (p := ⟨w8.heap.size, 1, none⟩) (by simp)).trans (cell_two (heap_alloc_last w8 (.cells #[.int .i64 0, .string G0] 54))).2) (by have := H9.out.size; first | omega | (simp; omega)) (by have := HQ3.out; omega) ?_); intro v10 w10 h10 g10
                 have H10 : Hid (Below w8.heap.size w8 w10) := hid (by first | exact (H9.out.alloc H9.out.size _).grown g10.out (by have := H9.out.size; simp; omega) (fun k hk => (h9.out.1.lt k hk).1) | exact H9.out.grown g10.out H9.out.size (fun k hk => by have := (h9.out.1.lt k hk).1; simp at this; omega))
                 have hr10 := h10.out
                 rw [← HG0.out.1, HG0.out.2.2.2] at hr10
                 obtain ⟨ad10, cp10, hv10, hi10⟩ := own_pairs (ps := turnG seed T Q) (by rw [HG0.out.2.1]; exact hr10)
                 rw [HG0.out.2.1] at hv10
                 subst hv10
                 have H11 := hid (And.intro (H8.out.1.keep H10.out) hi10)
                 clear h10 g10 hr10 hi10 H10))
          all_goals
            first
              | (obtain ⟨ge, ege⟩ : ∃ g, g = w9.heap.size := ⟨_, rfl⟩
                 rw [← ege]
                 clear ege)
              | (obtain ⟨ge, ege⟩ : ∃ g, g = w8.heap.size := ⟨_, rfl⟩
                 rw [← ege]
                 clear ege)
            clear k0 k1 H9 h9
            revert H11
            revert w10 ad10 cp10 v9 ge
            exact key.out
        case k =>
          intro v9 w10 ad10 cp10 ge H11
          clear e0 e1 e0a e1a H8 HS HT HL8 HE0 HG0 hcs1 hcs2
          have n0 := H11.out.1.next.c0
          have n1 := H11.out.1.next.c1
          rw [hE2] at n0
          go_wp2_with (first
            | (go_at_call 15; refine (HCw.out _ _ _ _ _ (by exact (HNs.out _ H11.out.1).1) (by exact H11.out.2)).mono ?_; rintro e w12 ⟨rfl, hb12⟩; have H12 := hid (H11.out.1.keep hb12); clear hb12 n0 n1; have o0 := H12.out.old.c0; have o1 := H12.out.old.c1)
            | (go_at_call 18; have := H13; have := H14; have := H15; refine (HK4.out _ (by exact (HNs.out _ H15.out.1).1)).mono ?_; rintro e w16 ⟨z16, ad16, m16, cp16, rfl, hb16⟩; have H16 := hid (And.intro (H15.out.1.keep hb16) (And.intro (H15.out.2.1.keep hb16) (H15.out.2.2.keep hb16 (Nat.le_refl _)))); clear hb16 s0 s1
               have t0 := H16.out.1.next.c0
               have t1 := H16.out.1.next.c1
               rw [hE2] at t0
               have a0 := H16.out.2.1.c0
               have a1 := H16.out.2.1.c1)
            | (go_at_call 14; refine (xsame_yes _ _ _ _ _ _ (seatsG sx 4) (seatsG_len _ _) (by decide) _ (by exact H16.out.2.2) (by exact (HNs.out _ H16.out.1).1)).mono ?_; rintro e w17 ⟨rfl, hb17⟩; have H17 := hid (H16.out.1.keep hb17); clear hb17)
            | (go_at_call 18; have := H14; refine (HK3.out _ (by exact (HNs.out _ H14.out.1).2)).mono ?_; rintro e w15 ⟨z15, ad15, m15, cp15, rfl, hb15⟩; have H15 := hid (And.intro ((H14.out.1.keep hb15).keep ((Below.refl _ _).alloc (Nat.le_refl _) (.cells #[.int .i64 z15, .slice ad15 m15 cp15] 24))) (And.intro ((H14.out.2.1.keep hb15).alloc (.cells #[.int .i64 z15, .slice ad15 m15 cp15] 24)) ((H14.out.2.2.keep hb15 (Nat.le_refl _)).alloc (.cells #[.int .i64 z15, .slice ad15 m15 cp15] 24)))); clear hb15 r0 r1
               have s0 := H15.out.1.next.c0
               have s1 := H15.out.1.next.c1
               rw [hE2] at s0)
            | (go_at_call 18; have := H13; refine (HK2.out _ (by exact (HNs.out _ H13.out.1).2)).mono ?_; rintro e w14 ⟨z14, ad14, m14, cp14, rfl, hb14⟩; have H14 := hid (And.intro (H13.out.1.keep hb14) (And.intro (H13.out.2.1.keep hb14) (H13.out.2.2.keep hb14 (Nat.le_refl _)))); clear hb14 q0 q1; have r0 := H14.out.1.old.c0; have r1 := H14.out.1.old.c1)
            | (go_at_call 18; refine (HK1.out _ (by exact (HNs.out _ H12.out).2)).mono ?_; rintro e w13 ⟨ad13, cp13, rfl, hi13, hb13⟩
               have H13 : Hid (TkSt w (w13.alloc (.cells #[.int .i64 ((E : Int) + 1), .slice ad13 4 cp13] 24)) bo bn E N (.slice ad2 N cp2) (.slice ad3 4 cp3) (.slice (some ⟨gp, 0, none⟩) N cpp) bs seed sx ∧ PpAt (w13.alloc (.cells #[.int .i64 ((E : Int) + 1), .slice ad13 4 cp13] 24)) w13.heap.size ((E : Int) + 1) (.slice ad13 4 cp13) 24 ∧ PairsIn (w13.alloc (.cells #[.int .i64 ((E : Int) + 1), .slice ad13 4 cp13] 24)) ad13 (seatsG sx 4)) := hid ⟨(H12.out.keep hb13).keep ((Below.refl _ _).alloc (Nat.le_refl _) _), PpAt.new _ _ _ _, hi13.alloc _⟩
               clear hi13 hb13 o0 o1
               have q0 := H13.out.1.old.c0
               have q1 := H13.out.1.old.c1))
          go_ret
          exact ⟨rfl, H17.out.bel⟩
      · have hj1 : (j : Int) < (Q : Int) := by omega
        have hj0 : (0 : Int) ≤ (j : Int) := Int.natCast_nonneg _
        have hjN : (j : Int) < (N : Int) := by omega
        have hc : wr.cell? ⟨gp, j, none⟩ = some (.pointer (some ⟨bs j, 0, none⟩)) := by
          have := (H6.out.1.ng HR.out.2.2).ptr.cells (g := gp) rfl j (.pointer (some ⟨bs j, 0, none⟩)) (gC_get bs N j (by omega))
          rwa [Addr.add_lit, Nat.zero_add] at this
        have HSj := hid (HSg.out j)
        obtain ⟨G, eG⟩ : ∃ G, G = gsigS (sdS seed j) 3 0 T := ⟨_, rfl⟩
        rw [← eG] at HSj
        have HL : Hid (sgsG seed T (j + 1) = sgsG seed T j ++ [((j : Int), G)]) := hid (by rw [eG]; rfl)
        have HJ := hid (And.intro hj hjn)
        have HJ2 : Hid (j < N ∧ N ≤ 7 ∧ j + 1 ≤ 1000) := hid ⟨by omega, by omega, by omega⟩
        clear hj hjn eG
        go_wp2_with (first
          | (go_at_call 24; refine (HSj.out _ _ (by exact HR.out.1 j (Nat.le_refl _) HJ2.out.1)).mono ?_; rintro e w7 ⟨rfl, hs7, hb7⟩
             have H7 : Hid (Fresh w7 bs seed (j + 1) N ∧ w7.ownsRow w5.heap.size 54 2 u14 j (pC (sgsG seed T j)) ∧ Ng w.heap.size w5 w7) := hid (by
               have hsg : isSg wr (bs j) := ⟨_, _, HR.out.1 j (Nat.le_refl _) HJ2.out.1⟩
               have hn7 : Ng w.heap.size wr w7 := Ng.but hb7 (H6.out.1.ge j HJ2.out.1) hsg
               exact ⟨HR.out.1.but HJ2.out.1 (by have := HJ2.out.2.1; omega) hb7, own_ng HR.out.2.1 (by decide) hn7, HR.out.2.2.trans hn7⟩)
             clear hs7 hb7)
          | (at_builtin; refine wpList_append_own _ rfl _ _ 33 rfl w5.heap.size 54 i0 (.agg #[.int .i64 0, .string ⟨#[]⟩]) 2 24 Try.underlying33 hi0 hz0 hz1 hz2 rfl (by decide) _ j _ rfl (by exact H7.out.2.1.alloc _) ⟨_, 0, none⟩ 1 1 (pC [((j : Int), G)]) rfl rfl (World.news_of_block (t := 54) (fr := (0, 0)) (heap_alloc_last _ _)) (by simp [pC, Value.oneCell']) (by have := HJ2.out; unfold maxLen; omega) (by have := HJ2.out; omega) (by have := H7.out.2.2.size; simp; omega) ?_; intro v8 w8 hown8 hgrow8 hnil8
             have H8 : Hid (Fresh w8 bs seed (j + 1) N ∧ w8.ownsRow w5.heap.size 54 2 v8 (j + 1) (pC (sgsG seed T (j + 1))) ∧ Ng w.heap.size w5 w8) := hid (by
               rw [HL.out, pC_app]
               exact ⟨H7.out.1.grown H7.out.2.1 (by decide) hgrow8, hown8, H7.out.2.2.grown hgrow8 (fun k hk => (H7.out.2.1.lt k hk).1)⟩)
             clear hown8 hgrow8 hnil8))
        go_roundw
        case rel => exact ⟨j + 1, by have := HJ.out; omega, by go_num, H8.out⟩
        case measure => simp [intOf]; omega
end Go.Proofs.Ytchlmcpnjpllnaa
