/- The law of stamps, walked. -/
import Derived.Test.YtoepppkadpjonaaGreatNb15
namespace Go.Proofs.YtoepppkadpjonaaGreat
set_option maxRecDepth 100000
open Go.RowKit
theorem cs_sub (L : List Value) (o : Nat) (M : List Value) (hM : (L.drop o).take M.length = M) (i : Nat) (u : Value) (hu : M[i]? = some u) : L[o + i]? = some u := by
 have hj := (List.getElem?_eq_some_iff.1 hu).1
 rw [← hM, List.getElem?_take_of_lt hj, List.getElem?_drop] at hu
 exact hu
theorem enV_row {w : World} {b : Nat} {ac : List An} {T : TypeId} (h : BxAt w b ((toldE ac ac.length).flatMap enV) T) (k : Nat) (x : An) (hx : ac[k]? = some x) : w.cell? ⟨b, k * 7 + 1, none⟩ = some (.int .i64 x.1.c) ∧ w.cell? ⟨b, k * 7 + 2, none⟩ = some (.int .i64 x.1.st) := by
 have hk : k < ac.length := (List.getElem?_eq_some_iff.1 hx).1
 have hy : (toldE ac ac.length)[k]? = some ((k : Int) + 1, x.1) := by
   unfold toldE
   rw [List.getElem?_append_left (by simp [hk]), List.getElem?_map]
   simp [hk, List.getD_eq_getElem?_getD]
   have := (List.getElem?_eq_some_iff.1 hx).2
   rw [this]
 have hl : ∀ y : Int × Rq, (enV y).length = 7 := fun y => rfl
 exact ⟨h.cell _ _ ((row_at (f := enV) hl hy 1 (by omega)).trans rfl), h.cell _ _ ((row_at (f := enV) hl hy 2 (by omega)).trans rfl)⟩
set_option maxHeartbeats 12800000 in
theorem konce_any (id e : Int) (a : Option Addr) (n0 cap : Nat) (fm : List Int) (hn : fm.length = n0) (hm : n0 ≤ maxLen) (sa : Option Addr) (sk : Nat) (l : List Cs) (hl : l.length * 296 ≤ 140737488351232) (hB : ∀ s, s ∈ l → csR s) (w : World) (hI : IntsIn w a fm) (hR : Reads (fun _ => True) w (.slice sa l.length sk) (.l 26 (l.map dCs))) :
   Calls Tryz.prog 5 #[.int .i64 id, .agg #[.int .i64 e, .slice a n0 cap], .slice sa l.length sk] w fun e w' => e = .returned (.bool true) ∧ Below w.heap.size w w' := by
 obtain ⟨wa, ha, hb, hx⟩ := one_newK [.int .i64 e, .slice a n0 cap] 24 w
 have HA := hid ha
 have HB := hid hb
 have HBx := hid (fun (u : World) (hu : Below wa.heap.size wa u) => hx.keep hu)
 have HN := hid (fun (u : World) (hu : Below w.heap.size w u) => knew_any id e a n0 cap fm hn hm u (hI.keep hu (Nat.le_refl _)))
 have hll : (l.length : Int) ≤ 140737488351232 := by omega
 have HL := hid (And.intro hl (And.intro hB (And.intro hR hll)))
 clear ha hb hx hn hm hl hB hI hR hll
 by_cases hc : (1 ≤ id ∧ id ≤ 8) ∧ rightC e fm = true ∧ e = 0
 · have HC := hid hc
   clear hc
   go_enter Tryz.func5, Tryz.ntmps5
   go_upto_region 1 with fail
   rw [HA.out]
   go_wp2_with (first
     | (have := H1; go_at_call 10; go_must (refine (HN.out _ (HB.out.trans (H1.out.mono HB.out.size))).mono ?_; rintro r w2 ⟨hb, h1, _⟩; obtain ⟨v, P, rfl, hA⟩ := h1 HC.out; obtain ⟨g, rfl⟩ := hA.isptr; have H2 := hid (And.intro hA hb); clear hA hb h1))
     | (refine wl_loadB rfl 24 _ rfl w.heap.size 0 rfl [.int .i64 e, .slice a n0 cap] 24 (HBx.out _ H1.out) _ Tryz.underlying24 rfl (by kernel_rfl) (.agg #[.int .i64 e, .slice a n0 cap]) rfl rfl ?_)
     | (go_at_call 9; go_must (refine (klives_any _).mono ?_; rintro e w1 ⟨rfl, hb⟩; have H1 := hid hb; clear hb)))
   obtain ⟨N, eN⟩ : ∃ N, N = w1.heap.size := ⟨_, rfl⟩
   have hb1 : Below w.heap.size w w1 := HB.out.trans (H1.out.mono HB.out.size)
   have H3 : Hid (OnSt w w2 N (.pointer (some ⟨g, 0, none⟩)) fm id 0 0 P [] (c0 id)) := hid (by
     rw [eN]
     obtain ⟨hid8, hrc, he0⟩ := HC.out
     rw [he0] at hrc
     exact ⟨H2.out.1, hb1.size, hb1.trans (H2.out.2.mono hb1.size), ⟨hid8, hrc, rfl, by show (0 : Nat) < 18446744073709551616; decide, fun _ => rfl⟩, on_zero id, ⟨Nat.zero_le _, Nat.zero_le _⟩⟩)
   clear eN hb1
   go_loopw [9, 10] (fun asked i wr => ∃ (j : Nat) (n : Int) (P : Nat → Prop) (ls : List Lk) (c : Clt), j ≤ l.length ∧ asked = .int .i64 n ∧ i = .int .i64 (j : Int) ∧ OnSt w wr N (.pointer (some ⟨g, 0, none⟩)) fm id n j P ls c)
     (fun _ i _ => ((l.length : Int) - intOf i).toNat)
   case atStart => exact ⟨0, 0, P, [], c0 id, by omega, rfl, rfl, H3.out⟩
   case round =>
     obtain ⟨j, n, P1, ls, c, hj, rfl, rfl, hS⟩ := hrel
     have HS := hid hS
     clear hS
     by_cases hjn : j = l.length
     · have hj1 : ¬ ((j : Int) < (l.length : Int)) := by omega
       clear hj hjn
       go_wp2
       go_ret
       exact ⟨rfl, HS.out.bel⟩
     have hj1 : (j : Int) < (l.length : Int) := by omega
     have hj0 : (0 : Int) ≤ (j : Int) := Int.natCast_nonneg _
     have hjw : IntKind.i64.wrap ((j : Int) + 1) = (j : Int) + 1 := wrap_l2 (by omega) (by have := HL.out.2.2.2; omega)
     have hn1 : wrap64 (n + 1) = n + 1 := IntWalk.wrap64_in _ (by have := HS.out.inv.n0; omega)
     obtain ⟨s, hs⟩ : ∃ s, l[j]? = some s := ⟨_, List.getElem?_eq_getElem (by omega)⟩
     obtain ⟨ga, off, _, a13, c13, a14, c14, a15, c15, a16, c16, ev, _, hga, hcs, hml⟩ := cs_at HL.out.2.2.1 j s hs
     cases ev
     have hcs2 : ∀ u : World, Below w.heap.size w u → ∀ (i : Nat) (x : Value), (csC s (.slice a13 s.m.nx.length c13) (.slice a14 s.m.sg.length c14) (.slice a15 s.m.cg.length c15) (.slice a16 s.m.ln.length c16))[i]? = some x → u.cell? ⟨ga, off + j * 26 + i, none⟩ = some x := fun u hu i x hx => (hu.cell (p := ⟨ga, _, none⟩) hga).trans (hcs i x hx)
     have HCs := hid hcs2
     have HMl := hid (fun (u : World) (hu : Below w.heap.size w u) => hml.under hu)
     have HJ := hid (And.intro hj (And.intro hjn (HL.out.2.1 s (List.mem_of_getElem? hs))))
     obtain ⟨A, eA⟩ : ∃ A, A = Value.agg (csC s (.slice a13 s.m.nx.length c13) (.slice a14 s.m.sg.length c14) (.slice a15 s.m.cg.length c15) (.slice a16 s.m.ln.length c16)).toArray := ⟨_, rfl⟩
     have HAg := hid eA
     obtain ⟨Aq, eq⟩ : ∃ Aq, Aq = Value.agg #[.int .i64 s.q.c, .int .i64 s.q.st, .int .i64 s.q.k, .string s.q.key, .int .u64 (s.q.b : Int), .int .i64 s.q.id] := ⟨_, rfl⟩
     have HAq := hid eq
     have HKd := hid (fun (u : World) => kkind_any s (.slice a13 s.m.nx.length c13) (.slice a14 s.m.sg.length c14) (.slice a15 s.m.cg.length c15) (.slice a16 s.m.ln.length c16) u)
     rw [← eA] at HKd
     have hlen : (c.cm.length + 1) * 32 ≤ 140737488355328 ∧ (c.ac.length + 1) * 72 ≤ 140737488355328 := by
       have h1 := HS.out.len
       have h2 := HL.out.1
       omega
     have HLn := hid hlen
     clear hj hjn hs hga hcs hml hcs2 eq hlen
     rcases kd3_is s.k with hk | hk | hk
     · rw [hk] at HKd
       clear hk eA
       by_cases hz : askZ c s.q = 0
       · have HZ := hid hz
         have hoA := on_ask HS.out.inv HS.out.ok s.q HJ.out.2.2.1.2.2.2 hz
         have HOA := hid hoA
         obtain ⟨L, eL⟩ : ∃ L, L = askN fm ls c s.q := ⟨_, rfl⟩
         obtain ⟨c2, e2⟩ : ∃ c2, c2 = askC c s.q := ⟨_, rfl⟩
         have HK := hid (fun (u : World) (hu : OnSt w u N (.pointer (some ⟨g, 0, none⟩)) fm id n j P1 ls c) => kask_at hu.at_ hu.ok s.q HJ.out.2.2.1.2.2.2)
         rw [hz, ← eL, ← e2] at HK
         have HOp := hid (fun (u : World) (hu : OnSt w u N (.pointer (some ⟨g, 0, none⟩)) fm id n j P1 ls c) => kopen_at hu.at_ hu.ok)
         rw [hoA.1] at HOp
         have hop2 : rqV0 c2.op = .agg #[.int .i64 id, .int .i64 (n + 1), .int .i64 c2.op.k, .string c2.op.key, .float .f64 c2.op.b, .int .i64 c2.op.id] := by rw [e2]; unfold rqV0; rw [hoA.2.2.2.1, hoA.2.2.2.2]
         have HOp2 := hid (fun (u : World) (P2 : Nat → Prop) (hu : OnSt w u N (.pointer (some ⟨g, 0, none⟩)) fm id (n + 1) (j + 1) P2 ls c2) => kopen_at hu.at_ hu.ok)
         have hnb : nullB c2.op = false := by rw [e2]; exact hoA.2.2.1
         rw [hnb, hop2] at HOp2
         have HE2 := hid e2
         clear hz hoA eL e2 hop2 hnb
         go_wp2_with (first
           | (have := HV; refine wl_store_blk rfl 41 _ _ rfl w7.heap.size 0 rfl #[.int .i64 id, .int .i64 (n + 1), .int .i64 c2.op.k, .string c2.op.key, .float .f64 c2.op.b, .int .i64 c2.op.id] rfl [.int .i64 0, .int .i64 0, .int .i64 0, .string ⟨#[]⟩, .float .f64 0, .int .i64 0] 41 (heap_alloc_last w7 _) (by simp) (by kernel_rfl) (by simp [Value.oneCell']) ?_; go_must (intro w8 Hz; have yc := cell_at Hz.out.1 0 (.int .i64 id) rfl; have ys := cell_at Hz.out.1 1 (.int .i64 (n + 1)) rfl; have HW := hid (HV.out.keep (Hz.out.2.below ((Below.refl _ _).alloc (Nat.le_refl _) _) (Nat.le_refl _))); clear Hz))
           | (have := HU; go_at_call 22; go_must (refine (HOp2.out _ _ HU.out).mono ?_; rintro e w7 ⟨rfl, hb⟩; have HV := hid (HU.out.keep hb); clear hb))
           | (have := HT; go_at_call 13; go_must (refine (HK.out _ HT.out).mono ?_; rintro e w6 ⟨a6, k6, rfl, hp⟩; rw [HE2.out] at hp; obtain ⟨P2, h2⟩ := HT.out.asked s.q HJ.out.2.2.1.2.2.2 HZ.out hp; rw [← HE2.out] at h2; have HU := hid h2; clear hp h2))
           | rw [fld_op]
           | (have := HR; go_at_call 14; go_must (rw [HAq.out]; refine (drequest_any s.q _).mono ?_; rintro e w5 ⟨rfl, hb⟩; have HT := hid (HR.out.keep hb); clear hb))
           | (have := HR; refine wl_ldat rfl 36 _ rfl ga (off + j * 26 + 3) rfl [.int .i64 s.q.c, .int .i64 s.q.st, .int .i64 s.q.k, .string s.q.key, .int .u64 (s.q.b : Int), .int .i64 s.q.id] (fun i u hu => by rw [Nat.add_assoc]; exact HCs.out _ HR.out.bel (3 + i) u (cs_sub _ 3 _ (by rfl) i u hu)) _ Tryz.underlying36 rfl (by kernel_rfl) Aq HAq.out ?_)
           | (have := HQ; go_at_call 12; go_must (refine (HKd.out _).mono ?_; rintro e w4 ⟨rfl, hb⟩; have HR := hid (HQ.out.keep hb); clear hb))
           | (have := HQ; refine wl_ldat rfl 50 _ rfl ga (off + j * 26) rfl (csC s (.slice a13 s.m.nx.length c13) (.slice a14 s.m.sg.length c14) (.slice a15 s.m.cg.length c15) (.slice a16 s.m.ln.length c16)) (fun i u hu => HCs.out _ HQ.out.bel i u hu) _ Tryz.underlying50 rfl (by kernel_rfl) A HAg.out ?_)
           | (have := HP; refine wl_store_blk rfl 41 _ _ rfl w3.heap.size 0 rfl #[.int .i64 c.op.c, .int .i64 c.op.st, .int .i64 c.op.k, .string c.op.key, .float .f64 c.op.b, .int .i64 c.op.id] rfl [.int .i64 0, .int .i64 0, .int .i64 0, .string ⟨#[]⟩, .float .f64 0, .int .i64 0] 41 (heap_alloc_last w3 _) (by simp) (by kernel_rfl) (by simp [Value.oneCell']) ?_; go_must (intro wq Hz; have HQ := hid (HP.out.keep (Hz.out.2.below ((Below.refl _ _).alloc (Nat.le_refl _) _) (Nat.le_refl _))); clear Hz))
           | (go_at_call 22; go_must (refine (HOp.out _ HS.out).mono ?_; rintro e w3 ⟨rfl, hb⟩; have HP := hid (HS.out.keep hb); clear hb)))
         go_roundw
         case rel => exact ⟨j + 1, n + 1, P2, ls, c2, by have := HJ.out; omega, rfl, by simp, HW.out⟩
         case measure => have := HJ.out; simp [intOf]; omega
       · have HZ := hid hz
         have hN : askN fm ls c s.q = 0 := by unfold askN; rw [if_neg hz]
         have HK := hid (fun (u : World) (hu : OnSt w u N (.pointer (some ⟨g, 0, none⟩)) fm id n j P1 ls c) => kask_at hu.at_ hu.ok s.q HJ.out.2.2.1.2.2.2)
         rw [hN] at HK
         have HOp := hid (fun (u : World) (hu : OnSt w u N (.pointer (some ⟨g, 0, none⟩)) fm id n j P1 ls c) => kopen_at hu.at_ hu.ok)
         have HNo := hid (fun (u w' : World) (hu : OnSt w u N (.pointer (some ⟨g, 0, none⟩)) fm id n j P1 ls c) hp => hu.notasked (w' := w') s.q hz hp)
         generalize askZ c s.q = z at hz HK
         have z1 : (z == 0) = false := by simpa using hz
         have z2 : (z != 0) = true := by simpa using hz
         clear hz hN
         cases hnb : nullB c.op with
         | true =>
           rw [hnb] at HOp
           clear hnb
           go_wp2_with (first
             | (have := HT; go_at_call 13; go_must (refine (HK.out _ HT.out).mono ?_; rintro e w6 ⟨a6, k6, rfl, hp⟩; obtain ⟨P2, h2⟩ := HNo.out _ _ HT.out hp; have HU := hid h2; clear hp h2))
             | rw [fld_op]
             | (have := HR; go_at_call 14; go_must (rw [HAq.out]; refine (drequest_any s.q _).mono ?_; rintro e w5 ⟨rfl, hb⟩; have HT := hid (HR.out.keep hb); clear hb))
             | (have := HR; refine wl_ldat rfl 36 _ rfl ga (off + j * 26 + 3) rfl [.int .i64 s.q.c, .int .i64 s.q.st, .int .i64 s.q.k, .string s.q.key, .int .u64 (s.q.b : Int), .int .i64 s.q.id] (fun i u hu => by rw [Nat.add_assoc]; exact HCs.out _ HR.out.bel (3 + i) u (cs_sub _ 3 _ (by rfl) i u hu)) _ Tryz.underlying36 rfl (by kernel_rfl) Aq HAq.out ?_)
             | (have := HQ; go_at_call 12; go_must (refine (HKd.out _).mono ?_; rintro e w4 ⟨rfl, hb⟩; have HR := hid (HQ.out.keep hb); clear hb))
             | (have := HQ; refine wl_ldat rfl 50 _ rfl ga (off + j * 26) rfl (csC s (.slice a13 s.m.nx.length c13) (.slice a14 s.m.sg.length c14) (.slice a15 s.m.cg.length c15) (.slice a16 s.m.ln.length c16)) (fun i u hu => HCs.out _ HQ.out.bel i u hu) _ Tryz.underlying50 rfl (by kernel_rfl) A HAg.out ?_)
             | (have := HP; refine wl_store_blk rfl 41 _ _ rfl w3.heap.size 0 rfl #[.int .i64 c.op.c, .int .i64 c.op.st, .int .i64 c.op.k, .string c.op.key, .float .f64 c.op.b, .int .i64 c.op.id] rfl [.int .i64 0, .int .i64 0, .int .i64 0, .string ⟨#[]⟩, .float .f64 0, .int .i64 0] 41 (heap_alloc_last w3 _) (by simp) (by kernel_rfl) (by simp [Value.oneCell']) ?_; go_must (intro wq Hz; have HQ := hid (HP.out.keep (Hz.out.2.below ((Below.refl _ _).alloc (Nat.le_refl _) _) (Nat.le_refl _))); clear Hz))
             | (go_at_call 22; go_must (refine (HOp.out _ HS.out).mono ?_; rintro e w3 ⟨rfl, hb⟩; have HP := hid (HS.out.keep hb); clear hb)))
           go_roundw
           case rel => exact ⟨j + 1, n, P2, ls, c, by have := HJ.out; omega, rfl, by simp, HU.out⟩
           case measure => have := HJ.out; simp [intOf]; omega
         | false =>
           rw [hnb] at HOp
           clear hnb
           go_wp2_with (first
             | (have := HT; go_at_call 13; go_must (refine (HK.out _ HT.out).mono ?_; rintro e w6 ⟨a6, k6, rfl, hp⟩; obtain ⟨P2, h2⟩ := HNo.out _ _ HT.out hp; have HU := hid h2; clear hp h2))
             | rw [fld_op]
             | (have := HR; go_at_call 14; go_must (rw [HAq.out]; refine (drequest_any s.q _).mono ?_; rintro e w5 ⟨rfl, hb⟩; have HT := hid (HR.out.keep hb); clear hb))
             | (have := HR; refine wl_ldat rfl 36 _ rfl ga (off + j * 26 + 3) rfl [.int .i64 s.q.c, .int .i64 s.q.st, .int .i64 s.q.k, .string s.q.key, .int .u64 (s.q.b : Int), .int .i64 s.q.id] (fun i u hu => by rw [Nat.add_assoc]; exact HCs.out _ HR.out.bel (3 + i) u (cs_sub _ 3 _ (by rfl) i u hu)) _ Tryz.underlying36 rfl (by kernel_rfl) Aq HAq.out ?_)
             | (have := HQ; go_at_call 12; go_must (refine (HKd.out _).mono ?_; rintro e w4 ⟨rfl, hb⟩; have HR := hid (HQ.out.keep hb); clear hb))
             | (have := HQ; refine wl_ldat rfl 50 _ rfl ga (off + j * 26) rfl (csC s (.slice a13 s.m.nx.length c13) (.slice a14 s.m.sg.length c14) (.slice a15 s.m.cg.length c15) (.slice a16 s.m.ln.length c16)) (fun i u hu => HCs.out _ HQ.out.bel i u hu) _ Tryz.underlying50 rfl (by kernel_rfl) A HAg.out ?_)
             | (have := HP; refine wl_store_blk rfl 41 _ _ rfl w3.heap.size 0 rfl #[.int .i64 c.op.c, .int .i64 c.op.st, .int .i64 c.op.k, .string c.op.key, .float .f64 c.op.b, .int .i64 c.op.id] rfl [.int .i64 0, .int .i64 0, .int .i64 0, .string ⟨#[]⟩, .float .f64 0, .int .i64 0] 41 (heap_alloc_last w3 _) (by simp) (by kernel_rfl) (by simp [Value.oneCell']) ?_; go_must (intro wq Hz; have HQ := hid (HP.out.keep (Hz.out.2.below ((Below.refl _ _).alloc (Nat.le_refl _) _) (Nat.le_refl _))); clear Hz))
             | (go_at_call 22; go_must (refine (HOp.out _ HS.out).mono ?_; rintro e w3 ⟨rfl, hb⟩; have HP := hid (HS.out.keep hb); clear hb)))
           go_roundw
           case rel => exact ⟨j + 1, n, P2, ls, c, by have := HJ.out; omega, rfl, by simp, HU.out⟩
           case measure => have := HJ.out; simp [intOf]; omega
     all_goals
       have hk0 : kd3 s.k ≠ 0 := by rw [hk]; decide
       have HDo := hid (fun (u : World) (hu : OnSt w u N (.pointer (some ⟨g, 0, none⟩)) fm id n j P1 ls c) => kdoes_at hu.at_ hu.ok HLn.out.1 HLn.out.2 s HJ.out.2.2 _ _ _ _ _ _ _ _ (HMl.out u hu.bel))
       have HDid := hid (fun (u w' : World) (hu : OnSt w u N (.pointer (some ⟨g, 0, none⟩)) fm id n j P1 ls c) hp => hu.did (w' := w') s hk0 hp)
       have HOp := hid (fun (u : World) (hu : OnSt w u N (.pointer (some ⟨g, 0, none⟩)) fm id n j P1 ls c) => kopen_at hu.at_ hu.ok)
       rw [← eA] at HDo
       rw [hk] at HKd
       clear hk hk0 eA
       go_upto_region 22 with (first
         | (have := HG; go_at_call 23; go_must (refine (kaccepted_at HG.out.at_ (by have := HG.out.len; have := HL.out.1; have := HJ.out; omega)).mono ?_; rintro e w7 ⟨b7, rfl, hb0, hx7, hb⟩; have HH := hid (HG.out.keep hb); have HX7 := hid hx7; clear hb0 hx7 hb))
         | (have := HR; go_at_call 24; go_must (refine (HDo.out _ HR.out).mono ?_; rintro e w6 ⟨rfl, hp⟩; obtain ⟨P2, ls2, c2, h2⟩ := HDid.out _ _ HR.out hp; have HG := hid h2; clear hp h2))
         | (have := HR; refine wl_ldat rfl 50 _ rfl ga (off + j * 26) rfl (csC s (.slice a13 s.m.nx.length c13) (.slice a14 s.m.sg.length c14) (.slice a15 s.m.cg.length c15) (.slice a16 s.m.ln.length c16)) (fun i u hu => HCs.out _ HR.out.bel i u hu) _ Tryz.underlying50 rfl (by kernel_rfl) A HAg.out ?_)
         | (have := HQ; go_at_call 12; go_must (refine (HKd.out _).mono ?_; rintro e w4 ⟨rfl, hb⟩; have HR := hid (HQ.out.keep hb); clear hb))
         | (have := HQ; refine wl_ldat rfl 50 _ rfl ga (off + j * 26) rfl (csC s (.slice a13 s.m.nx.length c13) (.slice a14 s.m.sg.length c14) (.slice a15 s.m.cg.length c15) (.slice a16 s.m.ln.length c16)) (fun i u hu => HCs.out _ HQ.out.bel i u hu) _ Tryz.underlying50 rfl (by kernel_rfl) A HAg.out ?_)
         | (have := HP; refine wl_store_blk rfl 41 _ _ rfl w3.heap.size 0 rfl #[.int .i64 c.op.c, .int .i64 c.op.st, .int .i64 c.op.k, .string c.op.key, .float .f64 c.op.b, .int .i64 c.op.id] rfl [.int .i64 0, .int .i64 0, .int .i64 0, .string ⟨#[]⟩, .float .f64 0, .int .i64 0] 41 (heap_alloc_last w3 _) (by simp) (by kernel_rfl) (by simp [Value.oneCell']) ?_; go_must (intro wq Hz; have HQ := hid (HP.out.keep (Hz.out.2.below ((Below.refl _ _).alloc (Nat.le_refl _) _) (Nat.le_refl _))); clear Hz))
         | (go_at_call 22; go_must (refine (HOp.out _ HS.out).mono ?_; rintro e w3 ⟨rfl, hb⟩; have HP := hid (HS.out.keep hb); clear hb)))
       have HOp2 := hid (kopen_at HH.out.at_ HH.out.ok)
       have HAl : Hid ((c2.ac.length : Int) ≤ 140737488351232) := hid (by have h1 := HH.out.len; have h2 := HL.out.2.2.2; have h3 := HJ.out; omega)
       cases hnb : nullB c2.op with
       | true =>
         rw [hnb] at HOp2
         have hnn : n = (c2.ac.length : Int) := by have h9 := HH.out.inv.nul hnb; omega
         subst hnn
         clear hnb
         go_wp2_with (first
           | (have := HV; refine wl_store_blk rfl 41 _ _ rfl w8.heap.size 0 rfl #[.int .i64 c2.op.c, .int .i64 c2.op.st, .int .i64 c2.op.k, .string c2.op.key, .float .f64 c2.op.b, .int .i64 c2.op.id] rfl [.int .i64 0, .int .i64 0, .int .i64 0, .string ⟨#[]⟩, .float .f64 0, .int .i64 0] 41 (heap_alloc_last w8 _) (by simp) (by kernel_rfl) (by simp [Value.oneCell']) ?_; go_must (intro w9 Hz; have hb9 : Below w8.heap.size w8 w9 := Hz.out.2.below ((Below.refl _ _).alloc (Nat.le_refl _) _) (Nat.le_refl _); have HW := hid (HV.out.1.keep hb9); have HXW := hid (HV.out.2.keep hb9); clear Hz hb9))
           | (go_at_call 22; go_must (refine HOp2.out.mono ?_; rintro e w8 ⟨rfl, hb⟩; have HV := hid (And.intro (HH.out.keep hb) (HX7.out.keep hb)); clear hb)))
         go_loopw [20] (fun k wr2 => ∃ kk : Nat, kk ≤ c2.ac.length ∧ k = .int .i64 (kk : Int) ∧ wr2 = w9)
           (fun k _ => ((c2.ac.length : Int) - intOf k).toNat)
         case atStart => exact ⟨0, by omega, rfl, rfl⟩
         case round =>
           obtain ⟨kk, hkk, rfl, rfl⟩ := hrel
           by_cases hke : kk = c2.ac.length
           · have hk1 : ¬ ((kk : Int) < (c2.ac.length : Int)) := by omega
             clear hkk hke
             go_wp2
             go_roundw
             case rel => exact ⟨j + 1, _, P2, ls2, c2, by have := HJ.out; omega, rfl, by simp, HW.out⟩
             case measure => have := HJ.out; simp [intOf]; omega
           · have hk1 : (kk : Int) < (c2.ac.length : Int) := by omega
             have hk0 : (0 : Int) ≤ (kk : Int) := Int.natCast_nonneg _
             have hkw : IntKind.i64.wrap ((kk : Int) + 1) = (kk : Int) + 1 := wrap_l2 (by omega) (by have h8 := HAl.out; omega)
             obtain ⟨x, hx⟩ : ∃ x, c2.ac[kk]? = some x := ⟨_, List.getElem?_eq_getElem (by omega)⟩
             obtain ⟨z1, z2⟩ := enV_row HXW.out kk x hx
             obtain ⟨z3, z4⟩ := HW.out.inv.al kk x hx
             rw [z4] at z1
             rw [z3] at z2
             have HKK := hid (And.intro hkk hke)
             clear hx hkk hke z3 z4
             go_wp2
             go_roundw
             case rel => exact ⟨kk + 1, by have := HKK.out; omega, by simp, by trivial⟩
             case measure => have := HKK.out; simp [intOf]; omega
       | false =>
         rw [hnb] at HOp2
         have hnn : n = (c2.ac.length : Int) + 1 := by have h9 := (HH.out.inv.opn hnb).1; omega
         subst hnn
         clear hnb
         have t1 : decide ((c2.ac.length : Int) > (c2.ac.length : Int) + 1) = false := decide_eq_false (by omega)
         have t2 : ((c2.ac.length : Int) != (c2.ac.length : Int) + 1) = true := bne_iff_ne.2 (by omega)
         have t3 : ((c2.ac.length : Int) == (c2.ac.length : Int) + 1) = false := beq_eq_false_iff_ne.2 (by omega)
         go_wp2_with (first
           | (have := HV; refine wl_store_blk rfl 41 _ _ rfl w8.heap.size 0 rfl #[.int .i64 c2.op.c, .int .i64 c2.op.st, .int .i64 c2.op.k, .string c2.op.key, .float .f64 c2.op.b, .int .i64 c2.op.id] rfl [.int .i64 0, .int .i64 0, .int .i64 0, .string ⟨#[]⟩, .float .f64 0, .int .i64 0] 41 (heap_alloc_last w8 _) (by simp) (by kernel_rfl) (by simp [Value.oneCell']) ?_; go_must (intro w9 Hz; have hb9 : Below w8.heap.size w8 w9 := Hz.out.2.below ((Below.refl _ _).alloc (Nat.le_refl _) _) (Nat.le_refl _); have HW := hid (HV.out.1.keep hb9); have HXW := hid (HV.out.2.keep hb9); clear Hz hb9))
           | (go_at_call 22; go_must (refine HOp2.out.mono ?_; rintro e w8 ⟨rfl, hb⟩; have HV := hid (And.intro (HH.out.keep hb) (HX7.out.keep hb)); clear hb)))
         go_loopw [20] (fun k wr2 => ∃ kk : Nat, kk ≤ c2.ac.length ∧ k = .int .i64 (kk : Int) ∧ wr2 = w9)
           (fun k _ => ((c2.ac.length : Int) - intOf k).toNat)
         case atStart => exact ⟨0, by omega, rfl, rfl⟩
         case round =>
           obtain ⟨kk, hkk, rfl, rfl⟩ := hrel
           by_cases hke : kk = c2.ac.length
           · have hk1 : ¬ ((kk : Int) < (c2.ac.length : Int)) := by omega
             clear hkk hke
             go_wp2
             go_roundw
             case rel => exact ⟨j + 1, _, P2, ls2, c2, by have := HJ.out; omega, rfl, by simp, HW.out⟩
             case measure => have := HJ.out; simp [intOf]; omega
           · have hk1 : (kk : Int) < (c2.ac.length : Int) := by omega
             have hk0 : (0 : Int) ≤ (kk : Int) := Int.natCast_nonneg _
             have hkw : IntKind.i64.wrap ((kk : Int) + 1) = (kk : Int) + 1 := wrap_l2 (by omega) (by have h8 := HAl.out; omega)
             obtain ⟨x, hx⟩ : ∃ x, c2.ac[kk]? = some x := ⟨_, List.getElem?_eq_getElem (by omega)⟩
             obtain ⟨z1, z2⟩ := enV_row HXW.out kk x hx
             obtain ⟨z3, z4⟩ := HW.out.inv.al kk x hx
             rw [z4] at z1
             rw [z3] at z2
             have HKK := hid (And.intro hkk hke)
             clear hx hkk hke z3 z4
             go_wp2
             go_roundw
             case rel => exact ⟨kk + 1, by have := HKK.out; omega, by simp, by trivial⟩
             case measure => have := HKK.out; simp [intOf]; omega
 · have HC := hid hc
   clear hc
   go_enter Tryz.func5, Tryz.ntmps5
   go_upto_region 1 with fail
   rw [HA.out]
   go_wp2_with (first
     | (have := H1; go_at_call 10; go_must (refine (HN.out _ (HB.out.trans (H1.out.mono HB.out.size))).mono ?_; rintro r w2 ⟨hb, _, h1⟩; obtain rfl := h1 HC.out; have H2 := hid hb; clear hb h1))
     | (refine wl_loadB rfl 24 _ rfl w.heap.size 0 rfl [.int .i64 e, .slice a n0 cap] 24 (HBx.out _ H1.out) _ Tryz.underlying24 rfl (by kernel_rfl) (.agg #[.int .i64 e, .slice a n0 cap]) rfl rfl ?_)
     | (go_at_call 9; go_must (refine (klives_any _).mono ?_; rintro e w1 ⟨rfl, hb⟩; have H1 := hid hb; clear hb)))
   go_ret
   have h12 := HB.out.trans (H1.out.mono HB.out.size)
   exact ⟨rfl, h12.trans (H2.out.mono h12.size)⟩
end Go.Proofs.YtoepppkadpjonaaGreat
