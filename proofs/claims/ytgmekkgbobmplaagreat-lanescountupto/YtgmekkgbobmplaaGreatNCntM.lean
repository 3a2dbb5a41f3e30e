/- The law of counts, walked. -/
import Derived.Test.YtgmekkgbobmplaaGreatNa19
namespace Go.Proofs.YtgmekkgbobmplaaGreat
open Go.RowKit

theorem wrap_n2 {x : Int} (h0 : 0 ≤ x) (h1 : x ≤ 9223372036854775807) : IntKind.i64.wrap x = x := by rw [IntWalk.i64_left]; exact IntWalk.wrap64_in _ (by omega)
theorem ls_many (l : List Ls) : l.length ≤ lsN l := by
  induction l with
  | nil => exact Nat.le_refl _
  | cons s r ih =>
    have h3 : lsN (s :: r) = (lsT s + s.ps.length + 1) + lsN r := by simp [lsN]
    rw [List.length_cons]
    omega
theorem zPt_s : msS zPt.2.2 := ⟨by decide, by decide, by decide, ⟨by decide, fun p hp => by cases hp⟩, ⟨by decide, fun p hp => by cases hp⟩, ⟨by decide, fun p hp => by cases hp⟩⟩
theorem zPt_b : MsB zPt.2.2 where
  k := ⟨by decide, by decide⟩
  ep := ⟨by decide, by decide⟩
  v := ⟨by decide, by decide⟩
  sl := ⟨by decide, by decide⟩
  rq := ⟨⟨⟨by decide, by decide⟩, ⟨by decide, by decide⟩⟩, ⟨⟨by decide, by decide⟩, ⟨by decide, by decide⟩⟩, by unfold maxLen; decide, by decide⟩
  rc := ⟨by decide, by decide⟩
  rf := by decide
  tx := by unfold maxLen; decide
  nx := ⟨by unfold maxLen; decide, fun x hx => by cases hx⟩
  sg := ⟨by unfold maxLen; decide, fun x hx => by cases hx⟩
  cg := ⟨by unfold maxLen; decide, fun x hx => by cases hx⟩
  ln := ⟨by unfold maxLen; decide, fun x hx => by cases hx⟩
theorem fst_ok {U : Nat} (hU : U ≤ 1048576) (ps : List Pkt) (h : ∀ q, q ∈ ps → pkU U q) (hT : (ps.flatMap fun q => tmG q.2.2).length ≤ U) : ∃ q, q = ps.getD 0 zPt ∧ MsB q.2.2 ∧ msS q.2.2 ∧ (tmG q.2.2).length ≤ U := by
  cases ps with
  | nil => exact ⟨zPt, rfl, zPt_b, zPt_s, Nat.zero_le _⟩
  | cons q r =>
    have h1 := h q List.mem_cons_self
    rw [List.flatMap_cons, List.length_append] at hT
    exact ⟨q, rfl, h1.1.2.2, h1.2.s hU, by omega⟩
set_option maxRecDepth 100000 in
set_option maxHeartbeats 12800000 in
theorem ncnt_any (U : Nat) (hU : U ≤ 1048576) (a : Option Addr) (n0 cap : Nat) (bad : List Int) (hn : bad.length = n0) (hm : bad.length ≤ 1048576) (sa : Option Addr) (sk : Nat) (l : List Ls) (hB : ∀ s, s ∈ l → lsU U s) (hl : lsN l ≤ U) (hll : l.length ≤ U) (w : World) (hI : IntsIn w a bad) (hR : Reads (fun _ => True) w (.slice sa l.length sk) (.l 3 (l.map dLs))) :
    Calls Tryz.prog 4 #[.slice a n0 cap, .slice sa l.length sk] w fun e w' => e = .returned (.bool true) ∧ Below w.heap.size w w' := by
  have hR' : Reads (fun k => k < w.heap.size) w (.slice sa l.length sk) (.l 3 (l.map dLs)) := hR.mono (fun k hk _ => hk)
  have HN := hid (fun (u : World) (hu : Below w.heap.size w u) => nnew_any a n0 cap bad hn (by omega) u (hI.keep hu (Nat.le_refl _)))
  have hbm : bad.length * 8 ≤ 140737488355328 := by omega
  have HL := hid (And.intro hbm (And.intro hB (And.intro hR' (And.intro hl hll))))
  clear hn hm hB hI hR hR' hl hll hbm
  go_enter Tryz.func4, Tryz.ntmps4
  go_wp2_with (first
    | (have := H1; go_at_call 9; go_must (refine (HN.out _ H1.out).mono ?_; rintro r w2 ⟨v, P, rfl, hA, hb⟩; obtain ⟨g, rfl⟩ := hA.isptr; have H2 := hid (And.intro hA hb); clear hA hb))
    | (go_at_call 8; go_must (refine (nlives_any _).mono ?_; rintro e w1 ⟨rfl, hb⟩; have H1 := hid hb; clear hb)))
  obtain ⟨N, eN⟩ : ∃ N, N = w1.heap.size := ⟨_, rfl⟩
  have H3 : Hid (CtSt w w2 N (.pointer (some ⟨g, 0, none⟩)) bad 0 P [] []) := hid (by
    rw [eN]
    exact ⟨H2.out.1, H1.out.size, H1.out.trans (H2.out.2.mono H1.out.size), (fun q hq => by cases hq), Nat.le_refl _⟩)
  clear eN
  go_loopw [6, 7] (fun c i wr => ∃ (j : Nat) (n : Int) (P : Nat → Prop) (ps : List Pkt) (L : List Sg), j ≤ l.length ∧ c = .int .i64 n ∧ i = .int .i64 (j : Int) ∧ n = (ps.length : Int) ∧ CtSt w wr N (.pointer (some ⟨g, 0, none⟩)) bad (lsN (l.take j)) P ps L)
    (fun _ i _ => ((l.length : Int) - intOf i).toNat)
  case atStart => exact ⟨0, 0, P, [], [], by omega, rfl, rfl, rfl, H3.out.wide (Nat.zero_le _)⟩
  case round =>
    obtain ⟨j, n, P1, ps, L, hj, rfl, rfl, hn, hS⟩ := hrel
    have hn4 : 0 ≤ n ∧ n ≤ 4096 := by have := hS.at_.mx; omega
    have HS := hid hS
    clear hS
    by_cases hjn : j = l.length
    · have hj1 : ¬ ((j : Int) < (l.length : Int)) := by omega
      clear hj hjn hn hn4
      go_wp2
      go_ret
      exact ⟨rfl, HS.out.bel⟩
    have hj1 : (j : Int) < (l.length : Int) := by omega
    have hj0 : (0 : Int) ≤ (j : Int) := Int.natCast_nonneg _
    have hjw : IntKind.i64.wrap ((j : Int) + 1) = (j : Int) + 1 := wrap_n2 (by omega) (by have := HL.out.2.2.2.2; omega)
    obtain ⟨s, hs⟩ : ∃ s, l[j]? = some s := ⟨_, List.getElem?_eq_getElem (by omega)⟩
    obtain ⟨ga, off, _, aa, ck, ev, hF, hga, c0, c1, c2, hrs⟩ := ls_at HL.out.2.2.1 j s hs
    cases ev
    have hcs : ∀ u : World, Below w.heap.size w u → ∀ (i : Nat) (x : Value), ([.int .i64 s.k, .int .i64 s.n, .slice aa s.ps.length ck] : List Value)[i]? = some x → u.cell? ⟨ga, off + j * 3 + i, none⟩ = some x := fun u hu i x hx => by
      refine (hu.cell (p := ⟨ga, _, none⟩) hga).trans ?_
      match i, hx with
      | 0, hx => cases hx; exact c0
      | 1, hx => cases hx; exact c1
      | 2, hx => cases hx; exact c2
    have HCs := hid hcs
    have HRd := hid (fun (u : World) (hu : Below w.heap.size w u) => hrs.under hu (Nat.le_refl _))
    have hsU := HL.out.2.1 s (List.mem_of_getElem? hs)
    have HJ := hid (And.intro hj (And.intro hjn hsU))
    have hln := lsN_at hs
    have hle := lsN_le l (j + 1)
    have HLn : Hid (lsN (l.take j) + lsT s + s.ps.length + 1 ≤ U ∧ lsN (l.take (j + 1)) = lsN (l.take j) + lsT s + s.ps.length + 1) := hid (by have := HL.out.2.2.2.1; omega)
    have HKd := hid (fun (u : World) => nkind_any s.k s.n (.slice aa s.ps.length ck) u)
    clear hj hjn hs hga hF c0 c1 c2 hrs hcs hsU hln hle
    rcases kd5_is s.k with hk | hk | hk | hk | hk
    · -- Send
      rw [hk] at HKd
      clear hk
      have HK := hid (fun (u : World) (hu : CtSt w u N (.pointer (some ⟨g, 0, none⟩)) bad (lsN (l.take j)) P1 ps L) => nsend_any hu.at_ s.ps aa ck (HRd.out u hu.bel) (fun k hk hp => by have := hu.at_.low k hp; have := hu.low; omega) (by have := HLn.out; omega) (fun q hq => by have h1 := HJ.out.2.2 q hq; exact ⟨h1.2.s hU, h1.1.2.2.n, tm_fitP h1.1.2.2⟩) (by have := hu.len; have := HLn.out.1; unfold lsT at this; omega))
      have HSt := hid (fun (u w' : World) (hu : CtSt w u N (.pointer (some ⟨g, 0, none⟩)) bad (lsN (l.take j)) P1 ps L) (hp : SdPost N P1 u w' (.pointer (some ⟨g, 0, none⟩)) bad ps L s.ps) => hu.sent (T' := lsN (l.take (j + 1))) (fun q hq => (HJ.out.2.2 q hq).2.s hU) hp (by have := HLn.out.2; unfold lsT at this; omega))
      obtain ⟨M, eM⟩ : ∃ M : Int, M = min (n + (s.ps.length : Int)) 4096 := ⟨_, rfl⟩
      have hM : 0 ≤ M ∧ M ≤ 4096 := by omega
      have HM := hid (fun (c : Nat) (hc : c = min (ps.length + s.ps.length) 4096) => show (c : Int) = M by omega)
      have a0 : (0 : Int) ≤ (s.ps.length : Int) := Int.natCast_nonneg _
      have a1 : wrap64 (n + (s.ps.length : Int)) = n + (s.ps.length : Int) := IntWalk.wrap64_in _ (by have := HLn.out.1; omega)
      have a2 : (if (4096 : Int) < n + (s.ps.length : Int) then (4096 : Int) else n + (s.ps.length : Int)) = M := by rw [eM]; split <;> omega
      have a3 : ¬ ((4096 : Int) < M) := by omega
      have HEM := hid eM
      clear hn hn4 eM hM
      go_wp2_with (first
        | (have := HG; go_at_call 24; go_must (refine (nlen_any HG.out.2.at_).mono ?_; rintro e w6 ⟨rfl, hb⟩; rw [HG.out.1]; have HE := hid (HG.out.2.keep hb); clear hb))
        | (have := HR; go_at_call 12; go_must (refine (HK.out _ HR.out).mono ?_; rintro e w5 ⟨rfl, hp⟩; obtain ⟨P2, ps2, L2, h1, h2⟩ := HSt.out _ _ HR.out hp; have HG := hid (And.intro (HM.out _ h1) h2); clear hp h1 h2))
        | (have := HP; go_at_call 11; go_must (refine (HKd.out _).mono ?_; rintro e w4 ⟨rfl, hb⟩; have HR := hid (HP.out.keep hb); have HB4 := hid hb; have y1 := (HX.out _ hb).cell 1 _ rfl; have y2 := (HX.out _ hb).cell 2 _ rfl; clear hb))
        | (have := HP; refine wl_loadB rfl 31 _ rfl wr.heap.size 0 rfl [.int .i64 s.k, .int .i64 s.n, .slice aa s.ps.length ck] 31 (HX.out _ (Below.refl _ _)) _ Tryz.underlying31 rfl (by kernel_rfl) (.agg #[.int .i64 s.k, .int .i64 s.n, .slice aa s.ps.length ck]) rfl rfl ?_)
        | (have := HS; refine wl_store_blk rfl 31 _ _ rfl wr.heap.size 0 rfl #[.int .i64 s.k, .int .i64 s.n, .slice aa s.ps.length ck] rfl [.int .i64 0, .int .i64 0, .slice none 0 0] 31 (heap_alloc_last wr _) (by simp) (by kernel_rfl) (by simp [Value.oneCell']) ?_; go_must (intro w3 Hz; have HP := hid (HS.out.keep (Hz.out.2.below ((Below.refl _ _).alloc (Nat.le_refl _) _) (Nat.le_refl _))); have HX := hid (fun (u : World) (hu : Below w3.heap.size w3 u) => BxAt.keep (show BxAt w3 wr.heap.size [.int .i64 s.k, .int .i64 s.n, .slice aa s.ps.length ck] 31 from Hz.out.1) hu); clear Hz))
        | (have := HS; refine wl_ldat rfl 31 _ rfl ga (off + j * 3) rfl [.int .i64 s.k, .int .i64 s.n, .slice aa s.ps.length ck] (fun i u hu => HCs.out _ HS.out.bel i u hu) _ Tryz.underlying31 rfl (by kernel_rfl) (.agg #[.int .i64 s.k, .int .i64 s.n, .slice aa s.ps.length ck]) rfl ?_))
      go_roundw
      case rel => exact ⟨j + 1, M, P2, ps2, L2, by have := HJ.out; omega, by rw [HEM.out], by simp, HG.out.1.symm, HE.out⟩
      case measure => have := HJ.out; simp [intOf]; omega
    · -- Inject
      rw [hk] at HKd
      clear hk
      obtain ⟨q, eq, hqb, hqs, hqt⟩ := fst_ok hU s.ps HJ.out.2.2 (by have := HLn.out.1; unfold lsT at this; omega)
      have HQ := hid eq
      have HF := hid (fun (u : World) (hu : Below w.heap.size w u) => nfirst_any s.k s.n s.ps aa ck u (HRd.out u hu))
      have HK := hid (fun (u : World) (hu : CtSt w u N (.pointer (some ⟨g, 0, none⟩)) bad (lsN (l.take j)) P1 ps L) (a13 a14 a15 a16 : Option Addr) (c13 c14 c15 c16 : Nat) (hL : MsL (fun k => k < w.heap.size) u q.2.2 (.slice a13 q.2.2.nx.length c13) (.slice a14 q.2.2.sg.length c14) (.slice a15 q.2.2.cg.length c15) (.slice a16 q.2.2.ln.length c16)) => ninject_any hu.at_ HL.out.1 q.1 q.2.1 q.2.2 hqb hqs (tm_fitP hqb) (by omega) a13 a14 a15 a16 c13 c14 c15 c16 hL)
      clear eq
      by_cases hz : injE bad L ps q = 0
      · have HSt := hid (fun (u w' : World) (hu : CtSt w u N (.pointer (some ⟨g, 0, none⟩)) bad (lsN (l.take j)) P1 ps L) (e : Ending) (hp : IjPost N P1 u w' (.pointer (some ⟨g, 0, none⟩)) bad ps L q e) => hu.inj0 hqs hz hp)
        have hr := inj_room hz
        have HM := hid (fun (c : Nat) (hc : c = ps.length + 1) => show (c : Int) = n + 1 by omega)
        have a1 : wrap64 (n + 1) = n + 1 := IntWalk.wrap64_in _ (by omega)
        have a3 : ¬ ((4096 : Int) < n + 1) := by omega
        clear hn hn4 hz hr hqb hqs hqt
        go_wp2_with (first
          | (have := HG; go_at_call 24; go_must (refine (nlen_any HG.out.2.at_).mono ?_; rintro e w9 ⟨rfl, hb⟩; rw [HG.out.1]; have HE := hid (HG.out.2.keep hb); clear hb))
          | (have := HT; go_at_call 14; go_must (refine (HK.out _ HT.out _ _ _ _ _ _ _ _ HMl.out).mono ?_; rintro e w6 hp; obtain ⟨rfl, P2, ps2, L2, h1, h2⟩ := HSt.out _ _ HT.out _ hp; have HG := hid (And.intro (HM.out _ h1) h2); clear hp h1 h2))
          | (have := HR; go_at_call 15; go_must (refine (HF.out _ HR.out.bel).mono ?_; rintro e w5 ⟨q2, a13, c13, a14, c14, a15, c15, a16, c16, e2, rfl, hml, hb⟩; have e3 := e2.trans HQ.out.symm; clear e2; subst e3; have HT := hid (HR.out.keep hb); have HMl := hid hml; clear hb hml))
          | (have := HR; refine wl_loadB rfl 31 _ rfl wr.heap.size 0 rfl [.int .i64 s.k, .int .i64 s.n, .slice aa s.ps.length ck] 31 (HX.out _ HB4.out) _ Tryz.underlying31 rfl (by kernel_rfl) (.agg #[.int .i64 s.k, .int .i64 s.n, .slice aa s.ps.length ck]) rfl rfl ?_)
          | (have := HP; go_at_call 11; go_must (refine (HKd.out _).mono ?_; rintro e w4 ⟨rfl, hb⟩; have HR := hid (HP.out.keep hb); have HB4 := hid hb; have y1 := (HX.out _ hb).cell 1 _ rfl; have y2 := (HX.out _ hb).cell 2 _ rfl; clear hb))
          | (have := HP; refine wl_loadB rfl 31 _ rfl wr.heap.size 0 rfl [.int .i64 s.k, .int .i64 s.n, .slice aa s.ps.length ck] 31 (HX.out _ (Below.refl _ _)) _ Tryz.underlying31 rfl (by kernel_rfl) (.agg #[.int .i64 s.k, .int .i64 s.n, .slice aa s.ps.length ck]) rfl rfl ?_)
          | (have := HS; refine wl_store_blk rfl 31 _ _ rfl wr.heap.size 0 rfl #[.int .i64 s.k, .int .i64 s.n, .slice aa s.ps.length ck] rfl [.int .i64 0, .int .i64 0, .slice none 0 0] 31 (heap_alloc_last wr _) (by simp) (by kernel_rfl) (by simp [Value.oneCell']) ?_; go_must (intro w3 Hz; have HP := hid (HS.out.keep (Hz.out.2.below ((Below.refl _ _).alloc (Nat.le_refl _) _) (Nat.le_refl _))); have HX := hid (fun (u : World) (hu : Below w3.heap.size w3 u) => BxAt.keep (show BxAt w3 wr.heap.size [.int .i64 s.k, .int .i64 s.n, .slice aa s.ps.length ck] 31 from Hz.out.1) hu); clear Hz))
          | (have := HS; refine wl_ldat rfl 31 _ rfl ga (off + j * 3) rfl [.int .i64 s.k, .int .i64 s.n, .slice aa s.ps.length ck] (fun i u hu => HCs.out _ HS.out.bel i u hu) _ Tryz.underlying31 rfl (by kernel_rfl) (.agg #[.int .i64 s.k, .int .i64 s.n, .slice aa s.ps.length ck]) rfl ?_))
        go_roundw
        case rel => exact ⟨j + 1, n + 1, P2, ps2, L2, by have := HJ.out; omega, rfl, by simp, HG.out.1.symm, HE.out.wide (by have := HLn.out; omega)⟩
        case measure => have := HJ.out; simp [intOf]; omega
      · have HSt := hid (fun (u w' : World) (hu : CtSt w u N (.pointer (some ⟨g, 0, none⟩)) bad (lsN (l.take j)) P1 ps L) (e : Ending) (hp : IjPost N P1 u w' (.pointer (some ⟨g, 0, none⟩)) bad ps L q e) => hu.inj1 hz hp)
        have HM := hid (fun (c : Nat) (hc : c = ps.length) => show (c : Int) = n by omega)
        have a3 : ¬ ((4096 : Int) < n) := by omega
        generalize injE bad L ps q = z at hz HSt
        have z1 : (z == 0) = false := by simpa using hz
        clear hn hn4 hz hqb hqs hqt
        go_wp2_with (first
          | (have := HG; go_at_call 24; go_must (refine (nlen_any HG.out.2.at_).mono ?_; rintro e w9 ⟨rfl, hb⟩; rw [HG.out.1]; have HE := hid (HG.out.2.keep hb); clear hb))
          | (have := HT; go_at_call 14; go_must (refine (HK.out _ HT.out _ _ _ _ _ _ _ _ HMl.out).mono ?_; rintro e w6 hp; obtain ⟨rfl, P2, ps2, L2, h1, h2⟩ := HSt.out _ _ HT.out _ hp; have HG := hid (And.intro (HM.out _ h1) h2); clear hp h1 h2))
          | (have := HR; go_at_call 15; go_must (refine (HF.out _ HR.out.bel).mono ?_; rintro e w5 ⟨q2, a13, c13, a14, c14, a15, c15, a16, c16, e2, rfl, hml, hb⟩; have e3 := e2.trans HQ.out.symm; clear e2; subst e3; have HT := hid (HR.out.keep hb); have HMl := hid hml; clear hb hml))
          | (have := HR; refine wl_loadB rfl 31 _ rfl wr.heap.size 0 rfl [.int .i64 s.k, .int .i64 s.n, .slice aa s.ps.length ck] 31 (HX.out _ HB4.out) _ Tryz.underlying31 rfl (by kernel_rfl) (.agg #[.int .i64 s.k, .int .i64 s.n, .slice aa s.ps.length ck]) rfl rfl ?_)
          | (have := HP; go_at_call 11; go_must (refine (HKd.out _).mono ?_; rintro e w4 ⟨rfl, hb⟩; have HR := hid (HP.out.keep hb); have HB4 := hid hb; have y1 := (HX.out _ hb).cell 1 _ rfl; have y2 := (HX.out _ hb).cell 2 _ rfl; clear hb))
          | (have := HP; refine wl_loadB rfl 31 _ rfl wr.heap.size 0 rfl [.int .i64 s.k, .int .i64 s.n, .slice aa s.ps.length ck] 31 (HX.out _ (Below.refl _ _)) _ Tryz.underlying31 rfl (by kernel_rfl) (.agg #[.int .i64 s.k, .int .i64 s.n, .slice aa s.ps.length ck]) rfl rfl ?_)
          | (have := HS; refine wl_store_blk rfl 31 _ _ rfl wr.heap.size 0 rfl #[.int .i64 s.k, .int .i64 s.n, .slice aa s.ps.length ck] rfl [.int .i64 0, .int .i64 0, .slice none 0 0] 31 (heap_alloc_last wr _) (by simp) (by kernel_rfl) (by simp [Value.oneCell']) ?_; go_must (intro w3 Hz; have HP := hid (HS.out.keep (Hz.out.2.below ((Below.refl _ _).alloc (Nat.le_refl _) _) (Nat.le_refl _))); have HX := hid (fun (u : World) (hu : Below w3.heap.size w3 u) => BxAt.keep (show BxAt w3 wr.heap.size [.int .i64 s.k, .int .i64 s.n, .slice aa s.ps.length ck] 31 from Hz.out.1) hu); clear Hz))
          | (have := HS; refine wl_ldat rfl 31 _ rfl ga (off + j * 3) rfl [.int .i64 s.k, .int .i64 s.n, .slice aa s.ps.length ck] (fun i u hu => HCs.out _ HS.out.bel i u hu) _ Tryz.underlying31 rfl (by kernel_rfl) (.agg #[.int .i64 s.k, .int .i64 s.n, .slice aa s.ps.length ck]) rfl ?_))
        go_roundw
        case rel => exact ⟨j + 1, n, P2, ps2, L2, by have := HJ.out; omega, rfl, by simp, HG.out.1.symm, HE.out.wide (by have := HLn.out; omega)⟩
        case measure => have := HJ.out; simp [intOf]; omega
    · -- Take
      rw [hk] at HKd
      clear hk
      by_cases hp0 : ps.length = 0
      · have HK := hid (fun (u : World) (hu : CtSt w u N (.pointer (some ⟨g, 0, none⟩)) bad (lsN (l.take j)) P1 ps L) => ntake_none hu.at_ hp0 s.n)
        have HM := hid (show (ps.length : Int) = 0 by omega)
        obtain ⟨m1, e1⟩ : ∃ m1 : Int, m1 = n - 1 := ⟨_, rfl⟩
        have a0 : ¬ (0 < n) := by omega
        have a1 : wrap64 (n - 1) = m1 := by rw [e1]; exact IntWalk.wrap64_in _ (by omega)
        have a2 : max m1 0 = 0 := by omega
        have a4 : m1 < 0 := by omega
        have a3 : ¬ ((4096 : Int) < n) := by omega
        have HMx := hid a2
        clear hn hn4 hp0 e1
        go_wp2_with (first
          | (have := HG; go_at_call 24; go_must (refine (nlen_any HG.out.2.at_).mono ?_; rintro e w9 ⟨rfl, hb⟩; rw [HG.out.1]; have HE := hid (HG.out.2.keep hb); clear hb))
          | (have := HG0; refine wl_store_blk rfl 50 _ _ rfl w5.heap.size 0 rfl zPk.toArray rfl zPk 50 (heap_alloc_last w5 _) (by simp [zPk]) (by kernel_rfl) (by simp [zPk, Value.oneCell']) ?_; go_must (intro w6 Hz; have HG := hid (And.intro HG0.out.1 (HG0.out.2.keep (Hz.out.2.below ((Below.refl _ _).alloc (Nat.le_refl _) _) (Nat.le_refl _)))); clear Hz))
          | (have := HR; go_at_call 17; go_must (refine (HK.out _ HR.out).mono ?_; rintro e w5 ⟨rfl, hb⟩; have HG0 := hid (And.intro HM.out (HR.out.keep hb)); clear hb))
          | (have := HP; go_at_call 11; go_must (refine (HKd.out _).mono ?_; rintro e w4 ⟨rfl, hb⟩; have HR := hid (HP.out.keep hb); have HB4 := hid hb; have y1 := (HX.out _ hb).cell 1 _ rfl; have y2 := (HX.out _ hb).cell 2 _ rfl; clear hb))
          | (have := HP; refine wl_loadB rfl 31 _ rfl wr.heap.size 0 rfl [.int .i64 s.k, .int .i64 s.n, .slice aa s.ps.length ck] 31 (HX.out _ (Below.refl _ _)) _ Tryz.underlying31 rfl (by kernel_rfl) (.agg #[.int .i64 s.k, .int .i64 s.n, .slice aa s.ps.length ck]) rfl rfl ?_)
          | (have := HS; refine wl_store_blk rfl 31 _ _ rfl wr.heap.size 0 rfl #[.int .i64 s.k, .int .i64 s.n, .slice aa s.ps.length ck] rfl [.int .i64 0, .int .i64 0, .slice none 0 0] 31 (heap_alloc_last wr _) (by simp) (by kernel_rfl) (by simp [Value.oneCell']) ?_; go_must (intro w3 Hz; have HP := hid (HS.out.keep (Hz.out.2.below ((Below.refl _ _).alloc (Nat.le_refl _) _) (Nat.le_refl _))); have HX := hid (fun (u : World) (hu : Below w3.heap.size w3 u) => BxAt.keep (show BxAt w3 wr.heap.size [.int .i64 s.k, .int .i64 s.n, .slice aa s.ps.length ck] 31 from Hz.out.1) hu); clear Hz))
          | (have := HS; refine wl_ldat rfl 31 _ rfl ga (off + j * 3) rfl [.int .i64 s.k, .int .i64 s.n, .slice aa s.ps.length ck] (fun i u hu => HCs.out _ HS.out.bel i u hu) _ Tryz.underlying31 rfl (by kernel_rfl) (.agg #[.int .i64 s.k, .int .i64 s.n, .slice aa s.ps.length ck]) rfl ?_))
        go_roundw
        case rel => exact ⟨j + 1, 0, P1, ps, L, by have := HJ.out; omega, by first | rfl | rw [HMx.out], by simp, HG.out.1.symm, HE.out.wide (by have := HLn.out; omega)⟩
        case measure => have := HJ.out; simp [intOf]; omega
      · have HK := hid (fun (u : World) (hu : CtSt w u N (.pointer (some ⟨g, 0, none⟩)) bad (lsN (l.take j)) P1 ps L) => ntake_any hu.at_ (by omega) s.n)
        have HM := hid (fun (c : Nat) (hc : c = ps.length - 1) => show (c : Int) = n - 1 by omega)
        have HLt := hid (plN_lt s.n (c := ps.length) (by omega))
        have a0 : 0 < n := by omega
        have a1 : wrap64 (n - 1) = n - 1 := IntWalk.wrap64_in _ (by omega)
        have a2 : max (n - 1) 0 = n - 1 := by omega
        have a3 : ¬ ((4096 : Int) < n - 1) := by omega
        have a4 : ¬ (n - 1 < 0) := by omega
        have a5 : ¬ (0 > n - 1) := by omega
        have HMx := hid a2
        clear hn hn4 hp0
        go_wp2_with (first
          | (have := HG; go_at_call 24; go_must (refine (nlen_any HG.out.2.at_).mono ?_; rintro e w9 ⟨rfl, hb⟩; rw [HG.out.1]; have HE := hid (HG.out.2.keep hb); clear hb))
          | (have := HG0; refine wl_store_blk rfl 50 _ _ rfl w5.heap.size 0 rfl (pkC fr tg m (.slice a13 m.nx.length c13) (.slice a14 m.sg.length c14) (.slice a15 m.cg.length c15) (.slice a16 m.ln.length c16)).toArray rfl zPk 50 (heap_alloc_last w5 _) (by simp [zPk, pkC, msC]) (by kernel_rfl) (by simp [pkC, msC, Value.oneCell']) ?_; go_must (intro w6 Hz; have HG := hid (And.intro HG0.out.1 (HG0.out.2.keep (Hz.out.2.below ((Below.refl _ _).alloc (Nat.le_refl _) _) (Nat.le_refl _)))); clear Hz))
          | (have := HR; go_at_call 17; go_must (refine (HK.out _ HR.out).mono ?_; rintro e w5 ⟨fr, tg, m, a13, c13, a14, c14, a15, c15, a16, c16, P2, hq, rfl, hml, hA, hO, hs⟩; obtain ⟨h1, h2⟩ := HR.out.took hA hO HLt.out; obtain ⟨ps2, e2⟩ : ∃ ps2, ps2 = rmv ps (plN s.n ps.length) := ⟨_, rfl⟩; rw [← e2] at h1 h2; have HG0 := hid (And.intro (HM.out _ h1) h2); clear hq hml hA hO hs h1 h2 e2))
          | (have := HP; go_at_call 11; go_must (refine (HKd.out _).mono ?_; rintro e w4 ⟨rfl, hb⟩; have HR := hid (HP.out.keep hb); have HB4 := hid hb; have y1 := (HX.out _ hb).cell 1 _ rfl; have y2 := (HX.out _ hb).cell 2 _ rfl; clear hb))
          | (have := HP; refine wl_loadB rfl 31 _ rfl wr.heap.size 0 rfl [.int .i64 s.k, .int .i64 s.n, .slice aa s.ps.length ck] 31 (HX.out _ (Below.refl _ _)) _ Tryz.underlying31 rfl (by kernel_rfl) (.agg #[.int .i64 s.k, .int .i64 s.n, .slice aa s.ps.length ck]) rfl rfl ?_)
          | (have := HS; refine wl_store_blk rfl 31 _ _ rfl wr.heap.size 0 rfl #[.int .i64 s.k, .int .i64 s.n, .slice aa s.ps.length ck] rfl [.int .i64 0, .int .i64 0, .slice none 0 0] 31 (heap_alloc_last wr _) (by simp) (by kernel_rfl) (by simp [Value.oneCell']) ?_; go_must (intro w3 Hz; have HP := hid (HS.out.keep (Hz.out.2.below ((Below.refl _ _).alloc (Nat.le_refl _) _) (Nat.le_refl _))); have HX := hid (fun (u : World) (hu : Below w3.heap.size w3 u) => BxAt.keep (show BxAt w3 wr.heap.size [.int .i64 s.k, .int .i64 s.n, .slice aa s.ps.length ck] 31 from Hz.out.1) hu); clear Hz))
          | (have := HS; refine wl_ldat rfl 31 _ rfl ga (off + j * 3) rfl [.int .i64 s.k, .int .i64 s.n, .slice aa s.ps.length ck] (fun i u hu => HCs.out _ HS.out.bel i u hu) _ Tryz.underlying31 rfl (by kernel_rfl) (.agg #[.int .i64 s.k, .int .i64 s.n, .slice aa s.ps.length ck]) rfl ?_))
        go_roundw
        case rel => exact ⟨j + 1, n - 1, P2, ps2, L, by have := HJ.out; omega, by first | rfl | rw [HMx.out], by simp, HG.out.1.symm, HE.out.wide (by have := HLn.out; omega)⟩
        case measure => have := HJ.out; simp [intOf]; omega
    · -- Drop
      rw [hk] at HKd
      clear hk
      by_cases hp0 : ps.length = 0
      · have HK := hid (fun (u : World) (hu : CtSt w u N (.pointer (some ⟨g, 0, none⟩)) bad (lsN (l.take j)) P1 ps L) => ndrop_none hu.at_ hp0 s.n)
        have HM := hid (show (ps.length : Int) = 0 by omega)
        obtain ⟨m1, e1⟩ : ∃ m1 : Int, m1 = n - 1 := ⟨_, rfl⟩
        have a0 : ¬ (0 < n) := by omega
        have a1 : wrap64 (n - 1) = m1 := by rw [e1]; exact IntWalk.wrap64_in _ (by omega)
        have a2 : max m1 0 = 0 := by omega
        have a4 : m1 < 0 := by omega
        have a3 : ¬ ((4096 : Int) < n) := by omega
        have HMx := hid a2
        clear hn hn4 hp0 e1
        go_wp2_with (first
          | (have := HG; go_at_call 24; go_must (refine (nlen_any HG.out.2.at_).mono ?_; rintro e w9 ⟨rfl, hb⟩; rw [HG.out.1]; have HE := hid (HG.out.2.keep hb); clear hb))
          | (have := HR; go_at_call 20; go_must (refine (HK.out _ HR.out).mono ?_; rintro e w5 ⟨rfl, hb⟩; have HG := hid (And.intro HM.out (HR.out.keep hb)); clear hb))
          | (have := HP; go_at_call 11; go_must (refine (HKd.out _).mono ?_; rintro e w4 ⟨rfl, hb⟩; have HR := hid (HP.out.keep hb); have HB4 := hid hb; have y1 := (HX.out _ hb).cell 1 _ rfl; have y2 := (HX.out _ hb).cell 2 _ rfl; clear hb))
          | (have := HP; refine wl_loadB rfl 31 _ rfl wr.heap.size 0 rfl [.int .i64 s.k, .int .i64 s.n, .slice aa s.ps.length ck] 31 (HX.out _ (Below.refl _ _)) _ Tryz.underlying31 rfl (by kernel_rfl) (.agg #[.int .i64 s.k, .int .i64 s.n, .slice aa s.ps.length ck]) rfl rfl ?_)
          | (have := HS; refine wl_store_blk rfl 31 _ _ rfl wr.heap.size 0 rfl #[.int .i64 s.k, .int .i64 s.n, .slice aa s.ps.length ck] rfl [.int .i64 0, .int .i64 0, .slice none 0 0] 31 (heap_alloc_last wr _) (by simp) (by kernel_rfl) (by simp [Value.oneCell']) ?_; go_must (intro w3 Hz; have HP := hid (HS.out.keep (Hz.out.2.below ((Below.refl _ _).alloc (Nat.le_refl _) _) (Nat.le_refl _))); have HX := hid (fun (u : World) (hu : Below w3.heap.size w3 u) => BxAt.keep (show BxAt w3 wr.heap.size [.int .i64 s.k, .int .i64 s.n, .slice aa s.ps.length ck] 31 from Hz.out.1) hu); clear Hz))
          | (have := HS; refine wl_ldat rfl 31 _ rfl ga (off + j * 3) rfl [.int .i64 s.k, .int .i64 s.n, .slice aa s.ps.length ck] (fun i u hu => HCs.out _ HS.out.bel i u hu) _ Tryz.underlying31 rfl (by kernel_rfl) (.agg #[.int .i64 s.k, .int .i64 s.n, .slice aa s.ps.length ck]) rfl ?_))
        go_roundw
        case rel => exact ⟨j + 1, 0, P1, ps, L, by have := HJ.out; omega, by first | rfl | rw [HMx.out], by simp, HG.out.1.symm, HE.out.wide (by have := HLn.out; omega)⟩
        case measure => have := HJ.out; simp [intOf]; omega
      · have HK := hid (fun (u : World) (hu : CtSt w u N (.pointer (some ⟨g, 0, none⟩)) bad (lsN (l.take j)) P1 ps L) => ndrop_any hu.at_ (by omega) s.n)
        have HM := hid (fun (c : Nat) (hc : c = ps.length - 1) => show (c : Int) = n - 1 by omega)
        have HLt := hid (plN_lt s.n (c := ps.length) (by omega))
        have a0 : 0 < n := by omega
        have a1 : wrap64 (n - 1) = n - 1 := IntWalk.wrap64_in _ (by omega)
        have a2 : max (n - 1) 0 = n - 1 := by omega
        have a3 : ¬ ((4096 : Int) < n - 1) := by omega
        have a4 : ¬ (n - 1 < 0) := by omega
        have a5 : ¬ (0 > n - 1) := by omega
        have HMx := hid a2
        clear hn hn4 hp0
        go_wp2_with (first
          | (have := HG; go_at_call 24; go_must (refine (nlen_any HG.out.2.at_).mono ?_; rintro e w9 ⟨rfl, hb⟩; rw [HG.out.1]; have HE := hid (HG.out.2.keep hb); clear hb))
          | (have := HR; go_at_call 20; go_must (refine (HK.out _ HR.out).mono ?_; rintro e w5 ⟨rfl, hp⟩; obtain ⟨P2, ps2, L2, h1, h2⟩ := HR.out.dropped hp HLt.out; have HG := hid (And.intro (HM.out _ h1) h2); clear hp h1 h2))
          | (have := HP; go_at_call 11; go_must (refine (HKd.out _).mono ?_; rintro e w4 ⟨rfl, hb⟩; have HR := hid (HP.out.keep hb); have HB4 := hid hb; have y1 := (HX.out _ hb).cell 1 _ rfl; have y2 := (HX.out _ hb).cell 2 _ rfl; clear hb))
          | (have := HP; refine wl_loadB rfl 31 _ rfl wr.heap.size 0 rfl [.int .i64 s.k, .int .i64 s.n, .slice aa s.ps.length ck] 31 (HX.out _ (Below.refl _ _)) _ Tryz.underlying31 rfl (by kernel_rfl) (.agg #[.int .i64 s.k, .int .i64 s.n, .slice aa s.ps.length ck]) rfl rfl ?_)
          | (have := HS; refine wl_store_blk rfl 31 _ _ rfl wr.heap.size 0 rfl #[.int .i64 s.k, .int .i64 s.n, .slice aa s.ps.length ck] rfl [.int .i64 0, .int .i64 0, .slice none 0 0] 31 (heap_alloc_last wr _) (by simp) (by kernel_rfl) (by simp [Value.oneCell']) ?_; go_must (intro w3 Hz; have HP := hid (HS.out.keep (Hz.out.2.below ((Below.refl _ _).alloc (Nat.le_refl _) _) (Nat.le_refl _))); have HX := hid (fun (u : World) (hu : Below w3.heap.size w3 u) => BxAt.keep (show BxAt w3 wr.heap.size [.int .i64 s.k, .int .i64 s.n, .slice aa s.ps.length ck] 31 from Hz.out.1) hu); clear Hz))
          | (have := HS; refine wl_ldat rfl 31 _ rfl ga (off + j * 3) rfl [.int .i64 s.k, .int .i64 s.n, .slice aa s.ps.length ck] (fun i u hu => HCs.out _ HS.out.bel i u hu) _ Tryz.underlying31 rfl (by kernel_rfl) (.agg #[.int .i64 s.k, .int .i64 s.n, .slice aa s.ps.length ck]) rfl ?_))
        go_roundw
        case rel => exact ⟨j + 1, n - 1, P2, ps2, L2, by have := HJ.out; omega, by first | rfl | rw [HMx.out], by simp, HG.out.1.symm, HE.out.wide (by have := HLn.out; omega)⟩
        case measure => have := HJ.out; simp [intOf]; omega
    · -- Copy
      rw [hk] at HKd
      clear hk
      by_cases hp0 : ps.length = 0
      · have HK := hid (fun (u : World) (hu : CtSt w u N (.pointer (some ⟨g, 0, none⟩)) bad (lsN (l.take j)) P1 ps L) => ncopy_none hu.at_ hp0 s.n)
        have HM := hid (show (ps.length : Int) = n by omega)
        obtain ⟨m1, e1⟩ : ∃ m1 : Int, m1 = n - 1 := ⟨_, rfl⟩
        have a0 : ¬ (0 < n) := by omega
        have a1 : wrap64 (n - 1) = m1 := by rw [e1]; exact IntWalk.wrap64_in _ (by omega)
        have a2 : max m1 0 = 0 := by omega
        have a4 : m1 < 0 := by omega
        have a3 : ¬ ((4096 : Int) < n) := by omega
        have HMx := hid a2
        clear hn hn4 hp0 e1
        go_wp2_with (first
          | (have := HG; go_at_call 24; go_must (refine (nlen_any HG.out.2.at_).mono ?_; rintro e w9 ⟨rfl, hb⟩; rw [HG.out.1]; have HE := hid (HG.out.2.keep hb); clear hb))
          | (have := HR; go_at_call 22; go_must (refine (HK.out _ HR.out).mono ?_; rintro e w5 ⟨rfl, hb⟩; have HG := hid (And.intro HM.out (HR.out.keep hb)); clear hb))
          | (have := HP; go_at_call 11; go_must (refine (HKd.out _).mono ?_; rintro e w4 ⟨rfl, hb⟩; have HR := hid (HP.out.keep hb); have HB4 := hid hb; have y1 := (HX.out _ hb).cell 1 _ rfl; have y2 := (HX.out _ hb).cell 2 _ rfl; clear hb))
          | (have := HP; refine wl_loadB rfl 31 _ rfl wr.heap.size 0 rfl [.int .i64 s.k, .int .i64 s.n, .slice aa s.ps.length ck] 31 (HX.out _ (Below.refl _ _)) _ Tryz.underlying31 rfl (by kernel_rfl) (.agg #[.int .i64 s.k, .int .i64 s.n, .slice aa s.ps.length ck]) rfl rfl ?_)
          | (have := HS; refine wl_store_blk rfl 31 _ _ rfl wr.heap.size 0 rfl #[.int .i64 s.k, .int .i64 s.n, .slice aa s.ps.length ck] rfl [.int .i64 0, .int .i64 0, .slice none 0 0] 31 (heap_alloc_last wr _) (by simp) (by kernel_rfl) (by simp [Value.oneCell']) ?_; go_must (intro w3 Hz; have HP := hid (HS.out.keep (Hz.out.2.below ((Below.refl _ _).alloc (Nat.le_refl _) _) (Nat.le_refl _))); have HX := hid (fun (u : World) (hu : Below w3.heap.size w3 u) => BxAt.keep (show BxAt w3 wr.heap.size [.int .i64 s.k, .int .i64 s.n, .slice aa s.ps.length ck] 31 from Hz.out.1) hu); clear Hz))
          | (have := HS; refine wl_ldat rfl 31 _ rfl ga (off + j * 3) rfl [.int .i64 s.k, .int .i64 s.n, .slice aa s.ps.length ck] (fun i u hu => HCs.out _ HS.out.bel i u hu) _ Tryz.underlying31 rfl (by kernel_rfl) (.agg #[.int .i64 s.k, .int .i64 s.n, .slice aa s.ps.length ck]) rfl ?_))
        go_roundw
        case rel => exact ⟨j + 1, n, P1, ps, L, by have := HJ.out; omega, by first | rfl | rw [HMx.out], by simp, HG.out.1.symm, HE.out.wide (by have := HLn.out; omega)⟩
        case measure => have := HJ.out; simp [intOf]; omega
      · have HK := hid (fun (u : World) (hu : CtSt w u N (.pointer (some ⟨g, 0, none⟩)) bad (lsN (l.take j)) P1 ps L) => ncopy_any hu.at_ (by omega) hu.all s.n)
        have HM := hid (fun (c : Nat) (hc : c = min (ps.length + 1) 4096) => hc)
        have a0 : 0 < n := by omega
        by_cases hc : ps.length < 4096
        · rw [decide_eq_true hc] at HK
          replace HM := hid (fun (c : Nat) (hc : c = min (ps.length + 1) 4096) => show (c : Int) = n + 1 by omega)
          have a1 : wrap64 (n + 1) = n + 1 := IntWalk.wrap64_in _ (by omega)
          have a3 : ¬ ((4096 : Int) < n + 1) := by omega
          have a4 : n < 4096 := by omega
          clear hn hn4 hp0 hc
          go_wp2_with (first
            | (have := HG; go_at_call 24; go_must (refine (nlen_any HG.out.2.at_).mono ?_; rintro e w9 ⟨rfl, hb⟩; rw [HG.out.1]; have HE := hid (HG.out.2.keep hb); clear hb))
            | (have := HR; go_at_call 22; go_must (refine (HK.out _ HR.out).mono ?_; rintro e w5 ⟨q, hq, rfl, hp⟩; obtain ⟨P2, ps2, L2, h1, h2⟩ := HR.out.copied (List.mem_of_getElem? hq) hp; have HG := hid (And.intro (HM.out _ h1) h2); clear hq hp h1 h2))
            | (have := HP; go_at_call 11; go_must (refine (HKd.out _).mono ?_; rintro e w4 ⟨rfl, hb⟩; have HR := hid (HP.out.keep hb); have HB4 := hid hb; have y1 := (HX.out _ hb).cell 1 _ rfl; have y2 := (HX.out _ hb).cell 2 _ rfl; clear hb))
            | (have := HP; refine wl_loadB rfl 31 _ rfl wr.heap.size 0 rfl [.int .i64 s.k, .int .i64 s.n, .slice aa s.ps.length ck] 31 (HX.out _ (Below.refl _ _)) _ Tryz.underlying31 rfl (by kernel_rfl) (.agg #[.int .i64 s.k, .int .i64 s.n, .slice aa s.ps.length ck]) rfl rfl ?_)
            | (have := HS; refine wl_store_blk rfl 31 _ _ rfl wr.heap.size 0 rfl #[.int .i64 s.k, .int .i64 s.n, .slice aa s.ps.length ck] rfl [.int .i64 0, .int .i64 0, .slice none 0 0] 31 (heap_alloc_last wr _) (by simp) (by kernel_rfl) (by simp [Value.oneCell']) ?_; go_must (intro w3 Hz; have HP := hid (HS.out.keep (Hz.out.2.below ((Below.refl _ _).alloc (Nat.le_refl _) _) (Nat.le_refl _))); have HX := hid (fun (u : World) (hu : Below w3.heap.size w3 u) => BxAt.keep (show BxAt w3 wr.heap.size [.int .i64 s.k, .int .i64 s.n, .slice aa s.ps.length ck] 31 from Hz.out.1) hu); clear Hz))
            | (have := HS; refine wl_ldat rfl 31 _ rfl ga (off + j * 3) rfl [.int .i64 s.k, .int .i64 s.n, .slice aa s.ps.length ck] (fun i u hu => HCs.out _ HS.out.bel i u hu) _ Tryz.underlying31 rfl (by kernel_rfl) (.agg #[.int .i64 s.k, .int .i64 s.n, .slice aa s.ps.length ck]) rfl ?_))
          go_roundw
          case rel => exact ⟨j + 1, n + 1, P2, ps2, L2, by have := HJ.out; omega, rfl, by simp, HG.out.1.symm, HE.out.wide (by have := HLn.out; omega)⟩
          case measure => have := HJ.out; simp [intOf]; omega
        · rw [decide_eq_false hc] at HK
          replace HM := hid (fun (c : Nat) (hc : c = min (ps.length + 1) 4096) => show (c : Int) = n by omega)
          have a3 : ¬ ((4096 : Int) < n) := by omega
          have a4 : ¬ (n < 4096) := by omega
          clear hn hn4 hp0 hc
          go_wp2_with (first
            | (have := HG; go_at_call 24; go_must (refine (nlen_any HG.out.2.at_).mono ?_; rintro e w9 ⟨rfl, hb⟩; rw [HG.out.1]; have HE := hid (HG.out.2.keep hb); clear hb))
            | (have := HR; go_at_call 22; go_must (refine (HK.out _ HR.out).mono ?_; rintro e w5 ⟨q, hq, rfl, hp⟩; obtain ⟨P2, ps2, L2, h1, h2⟩ := HR.out.copied (List.mem_of_getElem? hq) hp; have HG := hid (And.intro (HM.out _ h1) h2); clear hq hp h1 h2))
            | (have := HP; go_at_call 11; go_must (refine (HKd.out _).mono ?_; rintro e w4 ⟨rfl, hb⟩; have HR := hid (HP.out.keep hb); have HB4 := hid hb; have y1 := (HX.out _ hb).cell 1 _ rfl; have y2 := (HX.out _ hb).cell 2 _ rfl; clear hb))
            | (have := HP; refine wl_loadB rfl 31 _ rfl wr.heap.size 0 rfl [.int .i64 s.k, .int .i64 s.n, .slice aa s.ps.length ck] 31 (HX.out _ (Below.refl _ _)) _ Tryz.underlying31 rfl (by kernel_rfl) (.agg #[.int .i64 s.k, .int .i64 s.n, .slice aa s.ps.length ck]) rfl rfl ?_)
            | (have := HS; refine wl_store_blk rfl 31 _ _ rfl wr.heap.size 0 rfl #[.int .i64 s.k, .int .i64 s.n, .slice aa s.ps.length ck] rfl [.int .i64 0, .int .i64 0, .slice none 0 0] 31 (heap_alloc_last wr _) (by simp) (by kernel_rfl) (by simp [Value.oneCell']) ?_; go_must (intro w3 Hz; have HP := hid (HS.out.keep (Hz.out.2.below ((Below.refl _ _).alloc (Nat.le_refl _) _) (Nat.le_refl _))); have HX := hid (fun (u : World) (hu : Below w3.heap.size w3 u) => BxAt.keep (show BxAt w3 wr.heap.size [.int .i64 s.k, .int .i64 s.n, .slice aa s.ps.length ck] 31 from Hz.out.1) hu); clear Hz))
            | (have := HS; refine wl_ldat rfl 31 _ rfl ga (off + j * 3) rfl [.int .i64 s.k, .int .i64 s.n, .slice aa s.ps.length ck] (fun i u hu => HCs.out _ HS.out.bel i u hu) _ Tryz.underlying31 rfl (by kernel_rfl) (.agg #[.int .i64 s.k, .int .i64 s.n, .slice aa s.ps.length ck]) rfl ?_))
          go_roundw
          case rel => exact ⟨j + 1, n, P2, ps2, L2, by have := HJ.out; omega, rfl, by simp, HG.out.1.symm, HE.out.wide (by have := HLn.out; omega)⟩
          case measure => have := HJ.out; simp [intOf]; omega
end Go.Proofs.YtgmekkgbobmplaaGreat
