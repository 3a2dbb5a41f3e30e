/- Texts laid together: KlD KlE DtE DpZ WiD WiE WiF WiU KlF WsB WiG. -/
import Derived.Test.YtoepppkadpjonaaGreatNb7
import Derived.Test.YtoepppkadpjonaaGreatNb6
import Derived.Test.YtoepppkadpjonaaGreatNb3
import Derived.Test.YtoepppkadpjonaaGreatNb1
import Derived.Test.YtoepppkadpjonaaGreatNb5
import Derived.Test.YtoepppkadpjonaaGreatNb2
import Derived.BigQuiet
import Derived.Maps.AppendAt
import Derived.OwnWalk
namespace Go.Proofs.YtoepppkadpjonaaGreat
section
set_option maxRecDepth 100000
open Go.RowKit
theorem wrap_l2 {x : Int} (h0 : 0 ≤ x) (h1 : x ≤ 9223372036854775807) : IntKind.i64.wrap x = x := by
 simp [IntKind.wrap, IntKind.bits, IntKind.signed]
 omega
theorem rqT_few (r : Rq) : (rqT r).size ≤ 64 := by
 unfold rqT
 split
 · decide
 · split
   · rename_i h
     obtain ⟨_, _, _, hk, _⟩ := right_fields h
     have : (⟨(rqL r).toArray⟩ : ByteArray).size = (rqL r).length := by simp [ByteArray.size]
     rw [this, rqL]
     simp only [List.length_append, be_len, data_len]
     omega
   · decide
section
variable {O P : Nat → Prop} {N g : Nat} {w : World} {v vt vc va : Value} {fm : List Int} {ls : List Lk} {c : Clt}
set_option maxHeartbeats 3200000 in
theorem kalike_any (h : ClM O N w g vt vc va fm ls c) (hm : c.cm.length ≤ maxLen) (ep : Int) (t : ByteArray) : Calls Tryz.prog 92 #[.pointer (some ⟨g, 0, none⟩), .int .i64 ep, .string t] w fun e w' => e = .returned (.int .i64 (cntW c.cm ep t : Int)) ∧ Below w.heap.size w w' := by
 have y9 := h.blk.cell 9 _ rfl
 obtain ⟨ad, cap, rfl, hc⟩ := h.wds
 have HC := hid hc
 obtain ⟨n, en⟩ : ∃ n, n = c.cm.length := ⟨_, rfl⟩
 have hnI : (n : Int) ≤ 9223372036854775807 := by unfold maxLen at hm; omega
 have HN := hid en
 have HLe := hid (cntW_le c.cm ep t)
 rw [← en] at y9
 clear hc h en hm
 go_enter Tryz.func92, Tryz.ntmps92
 go_wp2
 clear y9
 go_loopw [7, 15] (fun k i wr => ∃ j : Nat, j ≤ n ∧ i = .int .i64 (j : Int) ∧ k = .int .i64 ((cntW (c.cm.take j) ep t : Nat) : Int) ∧ Below w.heap.size w wr)
   (fun _ i _ => ((n : Int) - intOf i).toNat)
 case atStart => exact ⟨0, by omega, rfl, rfl, Below.refl _ _⟩
 case round =>
   obtain ⟨j, hj, rfl, rfl, hbel⟩ := hrel
   have HB := hid hbel
   clear hbel
   have hj0 : (0 : Int) ≤ (j : Int) := Int.natCast_nonneg _
   by_cases hjn : j = n
   · have hj1 : ¬ ((j : Int) < (n : Int)) := by omega
     have HF : Hid (c.cm.take j = c.cm) := hid (by rw [hjn, HN.out, List.take_length])
     clear hj hjn
     go_wp2
     go_ret
     exact ⟨by rw [HF.out]; rfl, HB.out⟩
   · have hj1 : (j : Int) < (n : Int) := by omega
     have hjl : j < c.cm.length := by have := HN.out; omega
     obtain ⟨x, hx⟩ : ∃ x, c.cm[j]? = some x := ⟨_, List.getElem?_eq_getElem hjl⟩
     obtain ⟨r, rfl, hr, hcs⟩ := HC.out (by omega)
     have f0 : wr.cell? ⟨r, j * 3, none⟩ = some (.int .i64 x.1) := (HB.out.cell (p := ⟨r, j * 3, none⟩) hr).trans (hcs _ _ (wdC_at c.cm j x hx 0 _ rfl))
     have f1 : wr.cell? ⟨r, j * 3 + 1, none⟩ = some (.int .i64 x.2.1) := (HB.out.cell (p := ⟨r, j * 3 + 1, none⟩) hr).trans (hcs _ _ (wdC_at c.cm j x hx 1 _ rfl))
     have f2 : wr.cell? ⟨r, j * 3 + 2, none⟩ = some (.string x.2.2) := (HB.out.cell (p := ⟨r, j * 3 + 2, none⟩) hr).trans (hcs _ _ (wdC_at c.cm j x hx 2 _ rfl))
     have HCt := hid (cntW_take (ep := ep) (t := t) hx)
     have HL9 := hid (HLe.out j)
     generalize cntW (c.cm.take j) ep t = K at HCt HL9 ⊢
     have hw1 : IntKind.i64.wrap ((K : Int) + 1) = (K : Int) + 1 := wrap_l2 (by omega) (by have := HL9.out; omega)
     have HX := hid (And.intro hj hjn)
     have HE : Hid (Below w.heap.size w (wr.alloc (.cells #[.int .i64 x.1, .int .i64 x.2.1, .string x.2.2] 148))) := hid (HB.out.alloc HB.out.size _)
     have HLk : Hid (likeW ep t x = (decide (x.1 = ep) && decide (x.2.2 = t))) := hid rfl
     clear hj hjn hjl hcs hr hx
     cases e1 : decide (x.1 = ep) with
     | false =>
       have q1 : (x.1 == ep) = false := by rw [beq_eq_false_iff_ne]; exact of_decide_eq_false e1
       have HK : Hid (likeW ep t x = false) := hid (by rw [HLk.out, e1]; rfl)
       clear e1
       go_wp2
       go_roundw
       case rel => exact ⟨j + 1, by have := HX.out; omega, by go_num, by rw [HCt.out, HK.out]; rfl, HE.out⟩
       case measure => simp [intOf]; omega
     | true =>
       have q1 : (x.1 == ep) = true := by rw [beq_iff_eq]; exact of_decide_eq_true e1
       cases e2 : decide (x.2.2 = t) with
       | false =>
         have q2 : (x.2.2.toList == t.toList) = false := text_neS (of_decide_eq_false e2)
         have HK : Hid (likeW ep t x = false) := hid (by rw [HLk.out, e1, e2]; rfl)
         clear e1 e2
         go_wp2
         go_roundw
         case rel => exact ⟨j + 1, by have := HX.out; omega, by go_num, by rw [HCt.out, HK.out]; rfl, HE.out⟩
         case measure => simp [intOf]; omega
       | true =>
         have q2 : (x.2.2.toList == t.toList) = true := by rw [of_decide_eq_true e2]; simp
         have HK : Hid (likeW ep t x = true) := hid (by rw [HLk.out, e1, e2]; rfl)
         clear e1 e2
         go_wp2
         go_roundw
         case rel => exact ⟨j + 1, by have := HX.out; omega, by go_num, by rw [HCt.out, HK.out]; simp, HE.out⟩
         case measure => simp [intOf]; omega
set_option maxHeartbeats 3200000 in
theorem kownRq_any (q : Rq) (hb : q.b < 18446744073709551616) (w : World) : Calls Tryz.prog 41 #[rqV0 q] w fun e w' => e = .returned (.tuple #[rqV0 (rdR (rqT q)), .bool (rdE (rqT q) == 0)]) ∧ Below w.heap.size w w' := by
 obtain ⟨wa, HA, h0, h1, h2, h3⟩ := two_new w (.cells #[.int .i64 q.c, .int .i64 q.st, .int .i64 q.k, .string q.key, .float .f64 q.b, .int .i64 q.id] 41) (.cells #[.int .i64 0, .int .i64 0, .int .i64 0, .string ⟨#[]⟩, .float .f64 0, .int .i64 0] 41)
 have H0 := hid (And.intro h0 (And.intro (show RqAt wa w.heap.size q from h1) (show RqAt wa (w.heap.size + 1) zeroQ from h2)))
 have HT := hid (fun u => dtext_any q hb u)
 have HR := hid (fun u => dread_any (rqT q) (by have := rqT_few q; omega) u)
 obtain ⟨A, eA⟩ : ∃ A, A = rqV0 q := ⟨_, rfl⟩
 have HAg := hid eA
 generalize rqT q = t at HT HR ⊢
 generalize rqE q = E at HT
 obtain ⟨r, er⟩ : ∃ r, r = rdR t := ⟨_, rfl⟩
 rw [← er] at HR ⊢
 obtain ⟨G, eG⟩ : ∃ G, G = rdE t := ⟨_, rfl⟩
 rw [← eG] at HR ⊢
 clear er eG hb h0 h1 h2 h3
 replace HA := hid HA
 unfold rqV0 at eA ⊢
 obtain ⟨B, eB⟩ : ∃ B, B = Value.agg #[.int .i64 r.c, .int .i64 r.st, .int .i64 r.k, .string r.key, .float .f64 r.b, .int .i64 r.id] := ⟨_, rfl⟩
 have HBg := hid eB
 rw [← eA] at HT
 rw [← eB] at HR
 go_enter Tryz.func41, Tryz.ntmps41
 go_upto_region 1 with fail
 rw [HA.out, ← eA]
 clear eA eB
 go_wp2_with (first
   | (have := H3; refine wl_store_rq rfl _ _ rfl (w.heap.size + 1) rfl zeroQ r HBg.out H3.out.2.2 ?_; intro w4 Hz; have H4 := hid (And.intro (Hz.out.2.below H3.out.1 (by omega)) Hz.out.1); clear Hz)
   | (have := H3; refine wl_ldat rfl 41 _ rfl w.heap.size 0 rfl [.int .i64 r.c, .int .i64 r.st, .int .i64 r.k, .string r.key, .float .f64 r.b, .int .i64 r.id] (fun j v hv => by rw [Nat.zero_add]; exact cell_at H3.out.2.1 j v hv) _ Tryz.underlying41 rfl (by kernel_rfl) B HBg.out ?_)
   | (have := H2; refine wl_store_rq rfl _ _ rfl w.heap.size rfl q r HBg.out H2.out.2.1 ?_; intro w3 Hz; have H3 := hid (And.intro (Hz.out.2.below H2.out.1 (Nat.le_refl _)) (And.intro Hz.out.1 (show RqAt w3 (w.heap.size + 1) zeroQ from (Hz.out.2.block _ (by omega)).trans H2.out.2.2))); clear Hz)
   | (have := H1; go_at_call 80; go_must (refine (HR.out _).mono ?_; rintro e w2 ⟨rfl, hb⟩; have H2 := hid (And.intro (H1.out.1.trans (hb.mono H1.out.1.size)) (And.intro (show RqAt w2 w.heap.size q from (hb.block _ (lt_of_blk H1.out.2.1)).trans H1.out.2.1) (show RqAt w2 (w.heap.size + 1) zeroQ from (hb.block _ (lt_of_blk H1.out.2.2)).trans H1.out.2.2))); clear hb))
   | (go_at_call 79; go_must (refine (HT.out _).mono ?_; rintro e w1 ⟨rfl, hb⟩; have H1 := hid (And.intro (H0.out.1.trans (hb.mono H0.out.1.size)) (And.intro (show RqAt w1 w.heap.size q from (hb.block _ (lt_of_blk H0.out.2.1)).trans H0.out.2.1) (show RqAt w1 (w.heap.size + 1) zeroQ from (hb.block _ (lt_of_blk H0.out.2.2)).trans H0.out.2.2))); clear hb))
   | (refine wl_ldat rfl 41 _ rfl w.heap.size 0 rfl [.int .i64 q.c, .int .i64 q.st, .int .i64 q.k, .string q.key, .float .f64 q.b, .int .i64 q.id] (fun j v hv => by rw [Nat.zero_add]; exact cell_at H0.out.2.1 j v hv) _ Tryz.underlying41 rfl (by kernel_rfl) A HAg.out ?_))
 refine ret_pair (s := 2) (s2 := 3) (ad := ⟨w.heap.size + 1, 0, none⟩) rfl rfl (load_rq _ _ r H4.out.2) rfl rfl ?_
 exact ⟨by simp, H4.out.1⟩
end
end
section
set_option maxRecDepth 100000
open Go.RowKit
def c0 (id : Int) : Clt := ⟨id, 0, zeroQ, [], []⟩
theorem ClAt.fresh {w u : World} {O : Nat → Prop} {v : Value} {l : List Int} {id : Int} (ht : TrAt O u v l []) (hO : ∀ k, O k → w.heap.size ≤ k) (hb : Below w.heap.size w u) :
   ∃ P, ClAt w.heap.size P (u.alloc (.cells (clC (c0 id) v (.slice none 0 0) (.slice none 0 0)).toArray 94)) (.pointer (some ⟨u.heap.size, 0, none⟩)) l [] (c0 id) := by
 have hu : Below u.heap.size u (u.alloc (.cells (clC (c0 id) v (.slice none 0 0) (.slice none 0 0)).toArray 94)) := (Below.refl _ _).alloc (Nat.le_refl _) _
 refine ⟨Cfp O u.heap.size (.slice none 0 0) (.slice none 0 0), O, u.heap.size, v, _, _, rfl, ⟨heap_alloc_last u _, ht.keep hu.size (fun k hk _ => hu.block k hk), ⟨by simp [wdC, c0], .inl ⟨rfl, rfl⟩⟩, ⟨by simp [anC, c0], .inl ⟨rfl, rfl⟩⟩, hb.size, hO, Nat.le_trans hb.size hu.size, fun h => absurd (ht.lt _ h) (Nat.lt_irrefl _), by simp [Value.ownBlock], by simp [Value.ownBlock], by simp [Value.ownBlock], by simp [Value.ownBlock], by simp [Value.ownBlock]⟩, fun k => Iff.rfl⟩
set_option maxHeartbeats 3200000 in
theorem knew_any (id e : Int) (a : Option Addr) (n cap : Nat) (l : List Int) (hn : l.length = n) (hm : n ≤ maxLen) (w : World) (hI : IntsIn w a l) :
   Calls Tryz.prog 10 #[.int .i64 id, .agg #[.int .i64 e, .slice a n cap]] w fun r w' => Below w.heap.size w w' ∧ (((1 ≤ id ∧ id ≤ 8) ∧ rightC e l = true ∧ e = 0) → ∃ v P, r = .returned (.tuple #[v, .int .i64 0]) ∧ ClAt w.heap.size P w' v l [] (c0 id)) ∧ (¬ ((1 ≤ id ∧ id ≤ 8) ∧ rightC e l = true ∧ e = 0) → r = .returned (.tuple #[.pointer none, .int .i64 1])) := by
 have hA : Below w.heap.size w (w.alloc (.cells #[.int .i64 e, .slice a n cap] 24)) := (Below.refl _ _).alloc (Nat.le_refl _) _
 have H0 : Hid (BxAt (w.alloc (.cells #[.int .i64 e, .slice a n cap] 24)) w.heap.size [.int .i64 e, .slice a n cap] 24 ∧ Below w.heap.size w (w.alloc (.cells #[.int .i64 e, .slice a n cap] 24))) := hid ⟨heap_alloc_last w _, hA⟩
 have y0 := H0.out.1.cell 0 _ rfl
 have y1 := H0.out.1.cell 1 _ rfl
 have HN := hid (lnew_any e a n cap l hn hm (w.alloc (.cells #[.int .i64 e, .slice a n cap] 24)) (hI.keep hA (Nat.le_refl _)))
 clear hA hn hm hI
 by_cases h1 : id < 1
 · have q1 : decide (id < 1) = true := decide_eq_true h1
   have HF : Hid (¬ ((1 ≤ id ∧ id ≤ 8) ∧ rightC e l = true ∧ e = 0)) := hid (fun h => by omega)
   clear h1
   go_enter Tryz.func10, Tryz.ntmps10
   go_wp2
   go_ret2
   exact ⟨H0.out.2, fun h => absurd h HF.out, fun _ => rfl⟩
 have q1 : decide (id < 1) = false := decide_eq_false h1
 by_cases h2 : id > 8
 · have q2 : decide (id > 8) = true := decide_eq_true h2
   have HF : Hid (¬ ((1 ≤ id ∧ id ≤ 8) ∧ rightC e l = true ∧ e = 0)) := hid (fun h => by omega)
   clear h1 h2
   go_enter Tryz.func10, Tryz.ntmps10
   go_wp2
   go_ret2
   exact ⟨H0.out.2, fun h => absurd h HF.out, fun _ => rfl⟩
 have q2 : decide (id > 8) = false := decide_eq_false h2
 have HD : Hid (1 ≤ id ∧ id ≤ 8) := hid (by omega)
 clear h1 h2
 by_cases hg : rightC e l = true ∧ e = 0
 · have HGd := hid hg
   clear hg
   go_enter Tryz.func10, Tryz.ntmps10
   go_wp2_with (go_at_call 39; go_must (refine (HN.out).mono ?_; rintro r w1 ⟨hb, h3, _⟩; obtain ⟨v, O, rfl, ht, hO⟩ := h3 HGd.out; obtain ⟨gt, rfl⟩ := ht.isptr; have H1 := hid (And.intro (And.intro ht hO) hb); clear ht hO hb h3))
   go_ret2
   obtain ⟨P, hP⟩ := ClAt.fresh (w := w) (id := id) H1.out.1.1 (fun k hk => Nat.le_trans H0.out.2.size (H1.out.1.2 k hk)) (H0.out.2.trans (H1.out.2.mono H0.out.2.size))
   exact ⟨(H0.out.2.trans (H1.out.2.mono H0.out.2.size)).alloc (Nat.le_trans H0.out.2.size H1.out.2.size) _, fun _ => ⟨_, P, rfl, hP⟩, fun h => absurd ⟨HD.out, HGd.out⟩ h⟩
 · have HF : Hid (¬ ((1 ≤ id ∧ id ≤ 8) ∧ rightC e l = true ∧ e = 0)) := hid (fun h => hg h.2)
   have HGd := hid hg
   clear hg
   go_enter Tryz.func10, Tryz.ntmps10
   go_wp2_with (go_at_call 39; go_must (refine (HN.out).mono ?_; rintro r w1 ⟨hb, _, h3⟩; obtain rfl := h3 HGd.out; have H1 := hid hb; clear hb h3))
   go_ret2
   exact ⟨H0.out.2.trans (H1.out.mono H0.out.2.size), fun h => absurd h HF.out, fun _ => rfl⟩
end
section
open Go.RowKit
end
section
set_option maxRecDepth 100000
open Go.RowKit
theorem iwithin_any (n a b : Int) (w : World) : Calls Tryz.prog 160 #[.int .i64 n, .int .i64 a, .int .i64 b] w fun e w' => e = .returned (.bool (inB n a b)) ∧ w' = w := by
 unfold inB
 by_cases h1 : a ≤ n
 · rw [decide_eq_true h1]
   by_cases h2 : n ≤ b
   · rw [decide_eq_true h2]
     go_enter Tryz.func160, Tryz.ntmps160
     go_wp2
     go_ret
     exact ⟨by simp, rfl⟩
   · rw [decide_eq_false h2]
     go_enter Tryz.func160, Tryz.ntmps160
     go_wp2
     go_ret
     exact ⟨by simp <;> omega, rfl⟩
 · rw [decide_eq_false h1]
   have hd : decide (a ≤ n) = false := decide_eq_false h1
   go_enter Tryz.func160, Tryz.ntmps160
   go_wp2
   go_ret
   exact ⟨by simp, rfl⟩
theorem ikind_any (n : Int) (w : World) : Calls Tryz.prog 134 #[.int .i64 n] w fun e w' => e = .returned (.bool (inB n 1 10)) ∧ w' = w := by
 unfold inB
 by_cases h1 : 1 ≤ n
 · rw [decide_eq_true h1]
   by_cases h2 : n ≤ 10
   · rw [decide_eq_true h2]
     go_enter Tryz.func134, Tryz.ntmps134
     go_wp2
     go_ret
     exact ⟨by simp, rfl⟩
   · rw [decide_eq_false h2]
     go_enter Tryz.func134, Tryz.ntmps134
     go_wp2
     go_ret
     exact ⟨by simp <;> omega, rfl⟩
 · rw [decide_eq_false h1]
   have hd : decide (1 ≤ n) = false := decide_eq_false h1
   go_enter Tryz.func134, Tryz.ntmps134
   go_wp2
   go_ret
   exact ⟨by simp, rfl⟩
theorem iend_any (e : Int) (h0 : -1 ≤ e) (h1 : e ≤ 60) (w : World) : Calls Tryz.prog 166 #[.int .i64 e] w fun r w' => r = .returned (.int .i64 (4 * (e + 1))) ∧ w' = w := by
 go_enter Tryz.func166, Tryz.ntmps166
 go_wp2
 go_ret
 exact ⟨rfl, rfl⟩
theorem iview_any (v : Int) (w : World) : Calls Tryz.prog 184 #[.int .i64 v] w fun r w' => r = .returned (.bool (inB v 0 15)) ∧ w' = w := by
 go_enter Tryz.func184, Tryz.ntmps184
 go_wp2_with (go_at_call 160; refine (iwithin_any _ _ _ _).mono ?_; rintro e w1 ⟨rfl, hw⟩; replace hw := hw.symm; subst hw)
 go_ret
 exact ⟨rfl, rfl⟩
set_option maxHeartbeats 1600000 in
theorem iof_any (e s : Int) (h0 : 0 ≤ e) (h1 : e ≤ 60) (w : World) : Calls Tryz.prog 185 #[.int .i64 e, .int .i64 s] w fun r w' => r = .returned (.bool (ofB e s)) ∧ w' = w := by
 unfold ofB
 have HA : Hid (∀ u : World, Calls Tryz.prog 166 #[.int .i64 (e - 1)] u fun r w' => r = .returned (.int .i64 (4 * e)) ∧ w' = u) := hid (fun u => by have := iend_any (e - 1) (by omega) (by omega) u; rw [show e - 1 + 1 = e by omega] at this; exact this)
 have HB : Hid (∀ u : World, Calls Tryz.prog 166 #[.int .i64 e] u fun r w' => r = .returned (.int .i64 (4 * (e + 1))) ∧ w' = u) := hid (fun u => iend_any e (by omega) h1 u)
 by_cases h2 : 4 * e < s
 · rw [decide_eq_true h2]
   go_enter Tryz.func185, Tryz.ntmps185
   go_wp2_with (first
     | (have := H1; go_at_call 166; refine (HB.out _).mono ?_; rintro e w2 ⟨rfl, hw⟩; replace hw := hw.symm; subst hw)
     | (go_at_call 166; refine (HA.out _).mono ?_; rintro e w1 ⟨rfl, hw⟩; replace hw := hw.symm; subst hw; have H1 := hid trivial))
   go_ret
   exact ⟨by simp, rfl⟩
 · rw [decide_eq_false h2]
   have hd : decide (4 * e < s) = false := decide_eq_false h2
   go_enter Tryz.func185, Tryz.ntmps185
   go_wp2_with (first
     | (go_at_call 166; refine (HA.out _).mono ?_; rintro e w1 ⟨rfl, hw⟩; replace hw := hw.symm; subst hw; have H1 := hid trivial))
   go_ret
   exact ⟨by simp, rfl⟩
theorem isig_any (p : Sg) (w : World) : Calls Tryz.prog 187 #[.agg #[.int .i64 p.1, .string p.2]] w fun r w' => r = .returned (.bool (sigB p)) ∧ Below w.heap.size w w' := by
 go_enter Tryz.func187, Tryz.ntmps187
 go_wp2_with (go_at_call 160; refine (iwithin_any _ _ _ _).mono ?_; rintro e w1 ⟨rfl, hw⟩; replace hw := hw.symm; subst hw)
 go_ret
 exact ⟨rfl, (Below.refl w.heap.size w).alloc (Nat.le_refl _) _⟩
set_option maxHeartbeats 1600000 in
theorem ideed_any (r : Rq) (w : World) : Calls Tryz.prog 164 #[.agg #[.int .i64 r.c, .int .i64 r.st, .int .i64 r.k, .string r.key, .float .f64 r.b, .int .i64 r.id]] w fun e w' => e = .returned (.bool (askB r)) ∧ Below w.heap.size w w' := by
 have H0 : Hid (RqAt (w.alloc (.cells #[.int .i64 r.c, .int .i64 r.st, .int .i64 r.k, .string r.key, .float .f64 r.b, .int .i64 r.id] 41)) w.heap.size r ∧ Below w.heap.size w (w.alloc (.cells #[.int .i64 r.c, .int .i64 r.st, .int .i64 r.k, .string r.key, .float .f64 r.b, .int .i64 r.id] 41))) := hid ⟨heap_alloc_last w _, (Below.refl w.heap.size w).alloc (Nat.le_refl _) _⟩
 obtain ⟨⟨y0, y1⟩, y2, y3, y4, y5⟩ := H0.out.1.cells
 have HR : Hid (∀ u : World, Calls Tryz.prog 116 #[.agg #[.int .i64 r.c, .int .i64 r.st, .int .i64 r.k, .string r.key, .float .f64 r.b, .int .i64 r.id]] u fun e w' => e = .returned (.bool (rightB r)) ∧ Below u.heap.size u w') := hid (fun u => dright_any r u)
 have HN : Hid (∀ u : World, Calls Tryz.prog 81 #[.agg #[.int .i64 r.c, .int .i64 r.st, .int .i64 r.k, .string r.key, .float .f64 r.b, .int .i64 r.id]] u fun e w' => e = .returned (.bool (nullB r)) ∧ Below u.heap.size u w') := hid (fun u => dnull_any r u)
 rw [askB]
 cases hr : rightB r with
 | true =>
   rw [hr] at HR
   clear hr
   go_enter Tryz.func164, Tryz.ntmps164
   go_wp2_with (first
     | (go_at_call 116; refine (HR.out _).mono ?_; rintro e w1 ⟨rfl, hb⟩; have H1 := hid (H0.out.2.trans (hb.mono H0.out.2.size)); clear hb))
   go_ret
   exact ⟨by simp, H1.out⟩
 | false =>
   rw [hr] at HR
   clear hr
   go_enter Tryz.func164, Tryz.ntmps164
   go_wp2_with (first
     | (go_at_call 81; refine (HN.out _).mono ?_; rintro e w2 ⟨rfl, hb⟩; have H2 := hid (H1.out.2.trans (hb.mono H1.out.2.size)); clear hb)
     | (go_at_call 116; refine (HR.out _).mono ?_; rintro e w1 ⟨rfl, hb⟩; have H1 := hid (And.intro (H0.out.1.keep hb) (H0.out.2.trans (hb.mono H0.out.2.size))); clear hb y0 y1 y2 y3 y4 y5; obtain ⟨⟨y0, y1⟩, y2, y3, y4, y5⟩ := H1.out.1.cells))
   go_ret
   exact ⟨by simp, H2.out⟩
theorem iaskers_any (r : Rq) (w : World) : Calls Tryz.prog 165 #[.agg #[.int .i64 r.c, .int .i64 r.st, .int .i64 r.k, .string r.key, .float .f64 r.b, .int .i64 r.id]] w fun e w' => e = .returned (.int .i64 ((if nullB r then 0 else 1 : Nat) : Int)) ∧ Below w.heap.size w w' := by
 have H0 : Hid (RqAt (w.alloc (.cells #[.int .i64 r.c, .int .i64 r.st, .int .i64 r.k, .string r.key, .float .f64 r.b, .int .i64 r.id] 41)) w.heap.size r ∧ Below w.heap.size w (w.alloc (.cells #[.int .i64 r.c, .int .i64 r.st, .int .i64 r.k, .string r.key, .float .f64 r.b, .int .i64 r.id] 41))) := hid ⟨heap_alloc_last w _, (Below.refl w.heap.size w).alloc (Nat.le_refl _) _⟩
 obtain ⟨⟨y0, y1⟩, y2, y3, y4, y5⟩ := H0.out.1.cells
 have HN : Hid (∀ u : World, Calls Tryz.prog 81 #[.agg #[.int .i64 r.c, .int .i64 r.st, .int .i64 r.k, .string r.key, .float .f64 r.b, .int .i64 r.id]] u fun e w' => e = .returned (.bool (nullB r)) ∧ Below u.heap.size u w') := hid (fun u => dnull_any r u)
 cases hr : nullB r with
 | true =>
   rw [hr] at HN
   clear hr
   go_enter Tryz.func165, Tryz.ntmps165
   go_wp2_with (go_at_call 81; refine (HN.out _).mono ?_; rintro e w1 ⟨rfl, hb⟩; have H1 := hid (H0.out.2.trans (hb.mono H0.out.2.size)); clear hb)
   go_ret
   exact ⟨rfl, H1.out⟩
 | false =>
   rw [hr] at HN
   clear hr
   go_enter Tryz.func165, Tryz.ntmps165
   go_wp2_with (go_at_call 81; refine (HN.out _).mono ?_; rintro e w1 ⟨rfl, hb⟩; have H1 := hid (H0.out.2.trans (hb.mono H0.out.2.size)); clear hb)
   go_ret
   exact ⟨rfl, H1.out⟩
theorem imembers_any (a : Option Addr) (n cap : Nat) (l : List Int) (hn : l.length = n) (hm : n ≤ maxLen) (w : World) (hI : IntsIn w a l) : Calls Tryz.prog 167 #[.slice a n cap] w fun e w' => e = .returned (.bool (memB l)) ∧ Below w.heap.size w w' := by
 have HC : Hid (Calls Tryz.prog 77 #[.agg #[.int .i64 0, .slice a n cap]] w fun e w' => e = .returned (.bool (memB l)) ∧ Below w.heap.size w w') := hid (by
   have := cright_any 0 a n cap l hn hm w hI
   rw [show rightC 0 l = memB l by simp [rightC]] at this
   exact this)
 clear hn hm hI
 go_enter Tryz.func167, Tryz.ntmps167
 go_wp2_with (go_at_call 77; refine (HC.out).mono ?_; rintro e w1 ⟨rfl, hb⟩; have H1 := hid hb; clear hb)
 go_ret
 exact ⟨rfl, H1.out⟩
theorem iresult_any (c : Int) (f : Nat) (hf : f < 18446744073709551616) (w : World) : Calls Tryz.prog 169 #[.agg #[.int .i64 c, .float .f64 f]] w fun e w' => e = .returned (.bool (rsB c)) ∧ Below w.heap.size w w' := by
 have H0 : Hid (RsAt (w.alloc (.cells #[.int .i64 c, .float .f64 f] 43)) w.heap.size c f ∧ Below w.heap.size w (w.alloc (.cells #[.int .i64 c, .float .f64 f] 43))) := hid ⟨heap_alloc_last w _, (Below.refl w.heap.size w).alloc (Nat.le_refl _) _⟩
 obtain ⟨y0, y1⟩ := H0.out.1.cells
 have HT : Hid (∀ u : World, Calls Tryz.prog 91 #[.agg #[.int .i64 c, .float .f64 f]] u fun e w' => e = .returned (.tuple #[.string (rsT c f), .int .i64 (rsE c)]) ∧ Below u.heap.size u w') := hid (fun u => dresultText_any c f hf u)
 clear hf
 cases hr : rsB c with
 | true =>
   rw [show rsE c = 0 by rw [rsE, hr]; rfl] at HT
   clear hr
   go_enter Tryz.func169, Tryz.ntmps169
   go_wp2_with (go_at_call 91; refine (HT.out _).mono ?_; rintro e w1 ⟨rfl, hb⟩; have H1 := hid (H0.out.2.trans (hb.mono H0.out.2.size)); clear hb)
   go_ret
   exact ⟨by simp, H1.out⟩
 | false =>
   rw [show rsE c = 1 by rw [rsE, hr]; rfl] at HT
   clear hr
   go_enter Tryz.func169, Tryz.ntmps169
   go_wp2_with (go_at_call 91; refine (HT.out _).mono ?_; rintro e w1 ⟨rfl, hb⟩; have H1 := hid (H0.out.2.trans (hb.mono H0.out.2.size)); clear hb)
   go_ret
   exact ⟨by simp, H1.out⟩
end
section
set_option maxRecDepth 100000
open Go.RowKit
set_option maxHeartbeats 3200000 in
theorem ifitSigs_any (a : Option Addr) (n cap : Nat) (l : List Sg) (hn : l.length = n) (hm : n ≤ maxLen) (w : World) (hP : PairsIn w a l) : Calls Tryz.prog 171 #[.slice a n cap] w fun e w' => e = .returned (.bool (sigsB l)) ∧ Below w.heap.size w w' := by
 obtain ⟨V, eV⟩ : ∃ V, V = sigsB l := ⟨_, rfl⟩
 rw [← eV]
 have hmi : (n : Int) ≤ 9223372036854775807 := by unfold maxLen at hm; omega
 by_cases h16 : 16 < n
 · have h16i : (16 : Int) < (n : Int) := by omega
   have hf : V = false := by rw [eV, sigsB, decide_eq_false (by omega)]; rfl
   subst hf
   clear eV hP hn hm h16
   go_enter Tryz.func171, Tryz.ntmps171
   go_wp2
   go_ret
   exact ⟨rfl, Below.refl _ _⟩
 · have h16i : ¬ ((16 : Int) < (n : Int)) := by omega
   have HV : Hid (V = allTo (fun i => sigB (l.getD i sg0)) n) := hid (by rw [eV, sigsB, decide_eq_true (by omega), hn]; rfl)
   have HP := hid hP
   have HN := hid hn
   have HL : Hid (n ≤ 16) := hid (by omega)
   clear eV hP hn hm h16
   go_enter Tryz.func171, Tryz.ntmps171
   go_wp2
   go_loopw [10] (fun i wr => ∃ j : Nat, j ≤ n ∧ i = .int .i64 (j : Int) ∧ allTo (fun i => sigB (l.getD i sg0)) j = true ∧ Below w.heap.size w wr)
     (fun i _ => ((n : Int) - intOf i).toNat)
   case atStart => exact ⟨0, Nat.zero_le _, rfl, rfl, Below.refl _ _⟩
   case round =>
     obtain ⟨j, hj, rfl, hok, hB⟩ := hrel
     have HB := hid hB
     have HOk := hid hok
     clear hok hB
     have hj0 : (0 : Int) ≤ (j : Int) := Int.natCast_nonneg _
     by_cases hjn : j = n
     · have hj1 : ¬ ((j : Int) < (n : Int)) := by omega
       have hv : Hid (V = true) := hid (by rw [HV.out, ← hjn]; exact HOk.out)
       clear hj hjn
       go_wp2
       go_ret
       exact ⟨by rw [hv.out]; rfl, HB.out⟩
     · have hj1 : (j : Int) < (n : Int) := by omega
       have hjl : j < l.length := by have := HN.out; omega
       obtain ⟨g, off, rfl, hc1, hc2⟩ : ∃ g off, a = some ⟨g, off, none⟩ ∧ wr.cell? ⟨g, off + j * 2, none⟩ = some (.int .i64 (l.getD j sg0).1) ∧ wr.cell? ⟨g, off + j * 2 + 1, none⟩ = some (.string (l.getD j sg0).2) := by
         rcases HP.out with e | ⟨g, off, ha, hg, hc⟩
         · rw [e] at hjl; simp at hjl
         · have hx : l[j]? = some (l.getD j sg0) := by simp [hjl]
           obtain ⟨k1, k2⟩ := hc j _ hx
           exact ⟨g, off, ha, (World.cell?_of_block (a := ⟨g, off + j * 2, none⟩) (HB.out.block g hg)).trans k1, (World.cell?_of_block (a := ⟨g, off + j * 2 + 1, none⟩) (HB.out.block g hg)).trans k2⟩
       have HJ := hid (And.intro hj hjn)
       have HS : Hid (∀ u : World, Calls Tryz.prog 187 #[.agg #[.int .i64 (l.getD j sg0).1, .string (l.getD j sg0).2]] u fun r w' => r = .returned (.bool (sigB (l.getD j sg0))) ∧ Below u.heap.size u w') := hid (fun u => isig_any (l.getD j sg0) u)
       have HFa : Hid (sigB (l.getD j sg0) = false → V = false) := hid (fun e => by rw [HV.out]; exact allTo_no j (by omega) e)
       have HTr : Hid (sigB (l.getD j sg0) = true → allTo (fun i => sigB (l.getD i sg0)) (j + 1) = true) := hid (fun e => by rw [allTo, HOk.out, e]; rfl)
       generalize l.getD j sg0 = p at hc1 hc2 HS HFa HTr
       clear hj hjn hjl
       cases hp : sigB p with
       | true =>
         rw [hp] at HS
         have HT := hid (HTr.out hp)
         clear hp
         go_wp2_with (go_at_call 187; refine (HS.out _).mono ?_; rintro e w2 ⟨rfl, hb⟩; have H2 := hid ((HB.out.alloc (HB.out.size) (.cells #[.int .i64 p.1, .string p.2] 139)).trans (hb.mono (by have := HB.out.size; simp; omega))); clear hb)
         go_roundw
         case rel => exact ⟨j + 1, by have := HJ.out; omega, by go_num, HT.out, H2.out⟩
         case measure => simp [intOf]; omega
       | false =>
         rw [hp] at HS
         have hf := hid (HFa.out hp)
         clear hp
         go_wp2_with (go_at_call 187; refine (HS.out _).mono ?_; rintro e w2 ⟨rfl, hb⟩; have H2 := hid ((HB.out.alloc (HB.out.size) (.cells #[.int .i64 p.1, .string p.2] 139)).trans (hb.mono (by have := HB.out.size; simp; omega))); clear hb)
         go_ret
         exact ⟨by rw [hf.out]; rfl, H2.out⟩
theorem iareSigs_any (a : Option Addr) (n cap : Nat) (l : List Sg) (hn : l.length = n) (hm : n ≤ maxLen) (k : Nat) (w : World) (hP : PairsIn w a l) : Calls Tryz.prog 162 #[.slice a n cap, .int .i64 (k : Int)] w fun e w' => e = .returned (.bool (oneB l k)) ∧ Below w.heap.size w w' := by
 have HF : Hid (Calls Tryz.prog 171 #[.slice a n cap] w fun e w' => e = .returned (.bool (sigsB l)) ∧ Below w.heap.size w w') := hid (ifitSigs_any a n cap l hn hm w hP)
 rw [oneB, hn]
 clear hm hP
 by_cases h : n = k
 · have hb : ((n : Int) == (k : Int)) = true := by rw [h]; simp
   have hi : (n : Int) = (k : Int) := by omega
   rw [decide_eq_true h, Bool.true_and]
   clear h
   go_enter Tryz.func162, Tryz.ntmps162
   go_wp2_with (go_at_call 171; refine (HF.out).mono ?_; rintro e w1 ⟨rfl, hb⟩; have H1 := hid hb; clear hb)
   go_ret
   exact ⟨rfl, H1.out⟩
 · have hi : ¬ ((n : Int) = (k : Int)) := by omega
   have hb : ((n : Int) == (k : Int)) = false := by simpa using hi
   have hd : decide (n = k) = false := decide_eq_false h
   rw [decide_eq_false h, Bool.false_and]
   go_enter Tryz.func162, Tryz.ntmps162
   go_wp2
   go_ret
   exact ⟨by simp, Below.refl _ _⟩
end
section
set_option maxRecDepth 100000
open Go.RowKit
set_option maxHeartbeats 3200000 in
theorem icert_any (ep : Int) (h0 : 0 ≤ ep) (h1 : ep ≤ 60) (c : Ct) (a : Option Addr) (n cap : Nat) (hn : c.2.2.2.length = n) (hm : n ≤ maxLen) (w : World) (hP : PairsIn w a c.2.2.2) :
   Calls Tryz.prog 206 #[.int .i64 ep, .agg #[.int .i64 c.1, .int .i64 c.2.1, .int .i64 c.2.2.1.c, .int .i64 c.2.2.1.st, .int .i64 c.2.2.1.k, .string c.2.2.1.key, .float .f64 c.2.2.1.b, .int .i64 c.2.2.1.id, .slice a n cap]] w fun e w' => e = .returned (.bool (ctB ep c)) ∧ Below w.heap.size w w' := by
 have H0 : Hid (BxAt (w.alloc (.cells #[.int .i64 c.1, .int .i64 c.2.1, .int .i64 c.2.2.1.c, .int .i64 c.2.2.1.st, .int .i64 c.2.2.1.k, .string c.2.2.1.key, .float .f64 c.2.2.1.b, .int .i64 c.2.2.1.id, .slice a n cap] 163)) w.heap.size [.int .i64 c.1, .int .i64 c.2.1, .int .i64 c.2.2.1.c, .int .i64 c.2.2.1.st, .int .i64 c.2.2.1.k, .string c.2.2.1.key, .float .f64 c.2.2.1.b, .int .i64 c.2.2.1.id, .slice a n cap] 163 ∧ Below w.heap.size w (w.alloc (.cells #[.int .i64 c.1, .int .i64 c.2.1, .int .i64 c.2.2.1.c, .int .i64 c.2.2.1.st, .int .i64 c.2.2.1.k, .string c.2.2.1.key, .float .f64 c.2.2.1.b, .int .i64 c.2.2.1.id, .slice a n cap] 163))) := hid ⟨heap_alloc_last w _, (Below.refl w.heap.size w).alloc (Nat.le_refl _) _⟩
 have y0 := H0.out.1.cell 0 _ rfl; have y1 := H0.out.1.cell 1 _ rfl; have y2 := H0.out.1.cell 2 _ rfl; have y3 := H0.out.1.cell 3 _ rfl; have y4 := H0.out.1.cell 4 _ rfl; have y5 := H0.out.1.cell 5 _ rfl; have y6 := H0.out.1.cell 6 _ rfl; have y7 := H0.out.1.cell 7 _ rfl; have y8 := H0.out.1.cell 8 _ rfl
 obtain ⟨B1, e1⟩ : ∃ B, B = inB c.1 0 15 := ⟨_, rfl⟩
 have HT1 : Hid (∀ u : World, Below w.heap.size w u → Calls Tryz.prog 184 #[.int .i64 c.1] u fun e w' => e = .returned (.bool B1) ∧ Below u.heap.size u w') := hid (fun u hu => by rw [e1]; exact (iview_any _ u).mono fun e w' ⟨h1, h2⟩ => ⟨h1, by rw [h2]; exact Below.refl _ _⟩)
 obtain ⟨B2, e2⟩ : ∃ B, B = ofB ep c.2.1 := ⟨_, rfl⟩
 have HT2 : Hid (∀ u : World, Below w.heap.size w u → Calls Tryz.prog 185 #[.int .i64 ep, .int .i64 c.2.1] u fun e w' => e = .returned (.bool B2) ∧ Below u.heap.size u w') := hid (fun u hu => by rw [e2]; exact (iof_any ep _ h0 h1 u).mono fun e w' ⟨h1, h2⟩ => ⟨h1, by rw [h2]; exact Below.refl _ _⟩)
 obtain ⟨B3, e3⟩ : ∃ B, B = askB c.2.2.1 := ⟨_, rfl⟩
 have HT3 : Hid (∀ u : World, Below w.heap.size w u → Calls Tryz.prog 164 #[.agg #[.int .i64 c.2.2.1.c, .int .i64 c.2.2.1.st, .int .i64 c.2.2.1.k, .string c.2.2.1.key, .float .f64 c.2.2.1.b, .int .i64 c.2.2.1.id]] u fun e w' => e = .returned (.bool B3) ∧ Below u.heap.size u w') := hid (fun u hu => by rw [e3]; exact ideed_any _ u)
 obtain ⟨B4, e4⟩ : ∃ B, B = sigsB c.2.2.2 := ⟨_, rfl⟩
 have HT4 : Hid (∀ u : World, Below w.heap.size w u → Calls Tryz.prog 171 #[.slice a n cap] u fun e w' => e = .returned (.bool B4) ∧ Below u.heap.size u w') := hid (fun u hu => by rw [e4]; exact ifitSigs_any a n cap _ hn hm u (hP.keep hu (Nat.le_refl _)))
 rw [show ctB ep c = ((B1 && B2) && (B3 && B4)) by rw [e1, e2, e3, e4]; rfl]
 clear e1 e2 e3 e4 hP hn hm h0 h1
 cases B1 with
 | false =>
   go_enter Tryz.func206, Tryz.ntmps206
   go_wp2_with (first
     | (have := H0; go_at_call 184; refine (HT1.out _ H0.out.2).mono ?_; rintro e w1 ⟨rfl, hb⟩; have H1 := hid (And.intro (H0.out.1.keep hb) (H0.out.2.trans (hb.mono H0.out.2.size))); clear hb y0 y1 y2 y3 y4 y5 y6 y7 y8; have y0 := H1.out.1.cell 0 _ rfl; have y1 := H1.out.1.cell 1 _ rfl; have y2 := H1.out.1.cell 2 _ rfl; have y3 := H1.out.1.cell 3 _ rfl; have y4 := H1.out.1.cell 4 _ rfl; have y5 := H1.out.1.cell 5 _ rfl; have y6 := H1.out.1.cell 6 _ rfl; have y7 := H1.out.1.cell 7 _ rfl; have y8 := H1.out.1.cell 8 _ rfl))
   go_ret
   exact ⟨by simp, H1.out.2⟩
 | true =>
   cases B2 with
   | false =>
     go_enter Tryz.func206, Tryz.ntmps206
     go_wp2_with (first
       | (have := H1; go_at_call 185; refine (HT2.out _ H1.out.2).mono ?_; rintro e w2 ⟨rfl, hb⟩; have H2 := hid (And.intro (H1.out.1.keep hb) (H1.out.2.trans (hb.mono H1.out.2.size))); clear hb y0 y1 y2 y3 y4 y5 y6 y7 y8; have y0 := H2.out.1.cell 0 _ rfl; have y1 := H2.out.1.cell 1 _ rfl; have y2 := H2.out.1.cell 2 _ rfl; have y3 := H2.out.1.cell 3 _ rfl; have y4 := H2.out.1.cell 4 _ rfl; have y5 := H2.out.1.cell 5 _ rfl; have y6 := H2.out.1.cell 6 _ rfl; have y7 := H2.out.1.cell 7 _ rfl; have y8 := H2.out.1.cell 8 _ rfl)
       | (have := H0; go_at_call 184; refine (HT1.out _ H0.out.2).mono ?_; rintro e w1 ⟨rfl, hb⟩; have H1 := hid (And.intro (H0.out.1.keep hb) (H0.out.2.trans (hb.mono H0.out.2.size))); clear hb y0 y1 y2 y3 y4 y5 y6 y7 y8; have y0 := H1.out.1.cell 0 _ rfl; have y1 := H1.out.1.cell 1 _ rfl; have y2 := H1.out.1.cell 2 _ rfl; have y3 := H1.out.1.cell 3 _ rfl; have y4 := H1.out.1.cell 4 _ rfl; have y5 := H1.out.1.cell 5 _ rfl; have y6 := H1.out.1.cell 6 _ rfl; have y7 := H1.out.1.cell 7 _ rfl; have y8 := H1.out.1.cell 8 _ rfl))
     go_ret
     exact ⟨by simp, H2.out.2⟩
   | true =>
     cases B3 with
     | false =>
       go_enter Tryz.func206, Tryz.ntmps206
       go_wp2_with (first
         | (have := H2; go_at_call 164; refine (HT3.out _ H2.out.2).mono ?_; rintro e w3 ⟨rfl, hb⟩; have H3 := hid (And.intro (H2.out.1.keep hb) (H2.out.2.trans (hb.mono H2.out.2.size))); clear hb y0 y1 y2 y3 y4 y5 y6 y7 y8; have y0 := H3.out.1.cell 0 _ rfl; have y1 := H3.out.1.cell 1 _ rfl; have y2 := H3.out.1.cell 2 _ rfl; have y3 := H3.out.1.cell 3 _ rfl; have y4 := H3.out.1.cell 4 _ rfl; have y5 := H3.out.1.cell 5 _ rfl; have y6 := H3.out.1.cell 6 _ rfl; have y7 := H3.out.1.cell 7 _ rfl; have y8 := H3.out.1.cell 8 _ rfl)
         | (have := H1; go_at_call 185; refine (HT2.out _ H1.out.2).mono ?_; rintro e w2 ⟨rfl, hb⟩; have H2 := hid (And.intro (H1.out.1.keep hb) (H1.out.2.trans (hb.mono H1.out.2.size))); clear hb y0 y1 y2 y3 y4 y5 y6 y7 y8; have y0 := H2.out.1.cell 0 _ rfl; have y1 := H2.out.1.cell 1 _ rfl; have y2 := H2.out.1.cell 2 _ rfl; have y3 := H2.out.1.cell 3 _ rfl; have y4 := H2.out.1.cell 4 _ rfl; have y5 := H2.out.1.cell 5 _ rfl; have y6 := H2.out.1.cell 6 _ rfl; have y7 := H2.out.1.cell 7 _ rfl; have y8 := H2.out.1.cell 8 _ rfl)
         | (have := H0; go_at_call 184; refine (HT1.out _ H0.out.2).mono ?_; rintro e w1 ⟨rfl, hb⟩; have H1 := hid (And.intro (H0.out.1.keep hb) (H0.out.2.trans (hb.mono H0.out.2.size))); clear hb y0 y1 y2 y3 y4 y5 y6 y7 y8; have y0 := H1.out.1.cell 0 _ rfl; have y1 := H1.out.1.cell 1 _ rfl; have y2 := H1.out.1.cell 2 _ rfl; have y3 := H1.out.1.cell 3 _ rfl; have y4 := H1.out.1.cell 4 _ rfl; have y5 := H1.out.1.cell 5 _ rfl; have y6 := H1.out.1.cell 6 _ rfl; have y7 := H1.out.1.cell 7 _ rfl; have y8 := H1.out.1.cell 8 _ rfl))
       go_ret
       exact ⟨by simp, H3.out.2⟩
     | true =>
       cases B4 with
       | false =>
         go_enter Tryz.func206, Tryz.ntmps206
         go_wp2_with (first
           | (have := H3; go_at_call 171; refine (HT4.out _ H3.out.2).mono ?_; rintro e w4 ⟨rfl, hb⟩; have H4 := hid (And.intro (H3.out.1.keep hb) (H3.out.2.trans (hb.mono H3.out.2.size))); clear hb y0 y1 y2 y3 y4 y5 y6 y7 y8; have y0 := H4.out.1.cell 0 _ rfl; have y1 := H4.out.1.cell 1 _ rfl; have y2 := H4.out.1.cell 2 _ rfl; have y3 := H4.out.1.cell 3 _ rfl; have y4 := H4.out.1.cell 4 _ rfl; have y5 := H4.out.1.cell 5 _ rfl; have y6 := H4.out.1.cell 6 _ rfl; have y7 := H4.out.1.cell 7 _ rfl; have y8 := H4.out.1.cell 8 _ rfl)
           | (have := H2; go_at_call 164; refine (HT3.out _ H2.out.2).mono ?_; rintro e w3 ⟨rfl, hb⟩; have H3 := hid (And.intro (H2.out.1.keep hb) (H2.out.2.trans (hb.mono H2.out.2.size))); clear hb y0 y1 y2 y3 y4 y5 y6 y7 y8; have y0 := H3.out.1.cell 0 _ rfl; have y1 := H3.out.1.cell 1 _ rfl; have y2 := H3.out.1.cell 2 _ rfl; have y3 := H3.out.1.cell 3 _ rfl; have y4 := H3.out.1.cell 4 _ rfl; have y5 := H3.out.1.cell 5 _ rfl; have y6 := H3.out.1.cell 6 _ rfl; have y7 := H3.out.1.cell 7 _ rfl; have y8 := H3.out.1.cell 8 _ rfl)
           | (have := H1; go_at_call 185; refine (HT2.out _ H1.out.2).mono ?_; rintro e w2 ⟨rfl, hb⟩; have H2 := hid (And.intro (H1.out.1.keep hb) (H1.out.2.trans (hb.mono H1.out.2.size))); clear hb y0 y1 y2 y3 y4 y5 y6 y7 y8; have y0 := H2.out.1.cell 0 _ rfl; have y1 := H2.out.1.cell 1 _ rfl; have y2 := H2.out.1.cell 2 _ rfl; have y3 := H2.out.1.cell 3 _ rfl; have y4 := H2.out.1.cell 4 _ rfl; have y5 := H2.out.1.cell 5 _ rfl; have y6 := H2.out.1.cell 6 _ rfl; have y7 := H2.out.1.cell 7 _ rfl; have y8 := H2.out.1.cell 8 _ rfl)
           | (have := H0; go_at_call 184; refine (HT1.out _ H0.out.2).mono ?_; rintro e w1 ⟨rfl, hb⟩; have H1 := hid (And.intro (H0.out.1.keep hb) (H0.out.2.trans (hb.mono H0.out.2.size))); clear hb y0 y1 y2 y3 y4 y5 y6 y7 y8; have y0 := H1.out.1.cell 0 _ rfl; have y1 := H1.out.1.cell 1 _ rfl; have y2 := H1.out.1.cell 2 _ rfl; have y3 := H1.out.1.cell 3 _ rfl; have y4 := H1.out.1.cell 4 _ rfl; have y5 := H1.out.1.cell 5 _ rfl; have y6 := H1.out.1.cell 6 _ rfl; have y7 := H1.out.1.cell 7 _ rfl; have y8 := H1.out.1.cell 8 _ rfl))
         go_ret
         exact ⟨by simp, H4.out.2⟩
       | true =>
         go_enter Tryz.func206, Tryz.ntmps206
         go_wp2_with (first
           | (have := H3; go_at_call 171; refine (HT4.out _ H3.out.2).mono ?_; rintro e w4 ⟨rfl, hb⟩; have H4 := hid (And.intro (H3.out.1.keep hb) (H3.out.2.trans (hb.mono H3.out.2.size))); clear hb y0 y1 y2 y3 y4 y5 y6 y7 y8; have y0 := H4.out.1.cell 0 _ rfl; have y1 := H4.out.1.cell 1 _ rfl; have y2 := H4.out.1.cell 2 _ rfl; have y3 := H4.out.1.cell 3 _ rfl; have y4 := H4.out.1.cell 4 _ rfl; have y5 := H4.out.1.cell 5 _ rfl; have y6 := H4.out.1.cell 6 _ rfl; have y7 := H4.out.1.cell 7 _ rfl; have y8 := H4.out.1.cell 8 _ rfl)
           | (have := H2; go_at_call 164; refine (HT3.out _ H2.out.2).mono ?_; rintro e w3 ⟨rfl, hb⟩; have H3 := hid (And.intro (H2.out.1.keep hb) (H2.out.2.trans (hb.mono H2.out.2.size))); clear hb y0 y1 y2 y3 y4 y5 y6 y7 y8; have y0 := H3.out.1.cell 0 _ rfl; have y1 := H3.out.1.cell 1 _ rfl; have y2 := H3.out.1.cell 2 _ rfl; have y3 := H3.out.1.cell 3 _ rfl; have y4 := H3.out.1.cell 4 _ rfl; have y5 := H3.out.1.cell 5 _ rfl; have y6 := H3.out.1.cell 6 _ rfl; have y7 := H3.out.1.cell 7 _ rfl; have y8 := H3.out.1.cell 8 _ rfl)
           | (have := H1; go_at_call 185; refine (HT2.out _ H1.out.2).mono ?_; rintro e w2 ⟨rfl, hb⟩; have H2 := hid (And.intro (H1.out.1.keep hb) (H1.out.2.trans (hb.mono H1.out.2.size))); clear hb y0 y1 y2 y3 y4 y5 y6 y7 y8; have y0 := H2.out.1.cell 0 _ rfl; have y1 := H2.out.1.cell 1 _ rfl; have y2 := H2.out.1.cell 2 _ rfl; have y3 := H2.out.1.cell 3 _ rfl; have y4 := H2.out.1.cell 4 _ rfl; have y5 := H2.out.1.cell 5 _ rfl; have y6 := H2.out.1.cell 6 _ rfl; have y7 := H2.out.1.cell 7 _ rfl; have y8 := H2.out.1.cell 8 _ rfl)
           | (have := H0; go_at_call 184; refine (HT1.out _ H0.out.2).mono ?_; rintro e w1 ⟨rfl, hb⟩; have H1 := hid (And.intro (H0.out.1.keep hb) (H0.out.2.trans (hb.mono H0.out.2.size))); clear hb y0 y1 y2 y3 y4 y5 y6 y7 y8; have y0 := H1.out.1.cell 0 _ rfl; have y1 := H1.out.1.cell 1 _ rfl; have y2 := H1.out.1.cell 2 _ rfl; have y3 := H1.out.1.cell 3 _ rfl; have y4 := H1.out.1.cell 4 _ rfl; have y5 := H1.out.1.cell 5 _ rfl; have y6 := H1.out.1.cell 6 _ rfl; have y7 := H1.out.1.cell 7 _ rfl; have y8 := H1.out.1.cell 8 _ rfl))
         go_ret
         exact ⟨by simp, H4.out.2⟩
end
section
open Go.RowKit
theorem BxAt.kept {w w' : World} {b k : Nat} {L : List Value} {T : TypeId} (h : BxAt w k L T) (hk : Kept b none w w') (hne : k ≠ b) : BxAt w' k L T := (hk.block k (lt_of_blk h) hne (by simp)).trans h
theorem Kept.one {b k : Nat} {w0 w w' : World} (h : Kept b none w0 w) (ho : One k w w') (hk : w0.heap.size ≤ k) : Kept b none w0 w' :=
 ⟨ho.os.trans h.os, ho.tape.trans h.tape, ho.output.trans h.output, by rw [ho.size]; exact h.size, fun i hi hb hr => (ho.block i (by omega)).trans (h.block i hi hb hr)⟩
theorem RdAt.one {b k : Nat} {w w' : World} {s : ByteArray} {sh : Bool} (h : RdAt w b s sh) (ho : One k w w') (hk : b ≠ k) : RdAt w' b s sh := (ho.block b hk).trans h
theorem BxAt.one {b k : Nat} {w w' : World} {L : List Value} {T : TypeId} (h : BxAt w b L T) (ho : One k w w') (hk : b ≠ k) : BxAt w' b L T := (ho.block b hk).trans h
theorem Reads.kept {F : Nat → Prop} {b : Nat} {w w' : World} {v : Value} {d : Dat} (h : Reads F w v d) (hk : Kept b none w w') (hb : ¬ F b) : Reads F w' v d := h.keep hk.size (fun k hkl hF => hk.block k hkl (fun e => hb (e ▸ hF)) (by simp))
theorem Reads.one {F : Nat → Prop} {b : Nat} {w w' : World} {v : Value} {d : Dat} (h : Reads F w v d) (ho : One b w w') (hb : ¬ F b) : Reads F w' v d := h.keep (Nat.le_of_eq ho.size.symm) (fun k _ hF => ho.block k (fun e => hb (e ▸ hF)))
theorem OwnD.kept {T : TypeId} {sz B b : Nat} {F : Nat → Prop} {w w' : World} {v : Value} {es : List (List Dat)} (h : OwnD T sz B F w v es) (hk : Kept b none w w') (hF : ¬ F b) (hB : b < B) : OwnD T sz B F w' v es :=
 h.keep hk.size (fun k hkl hFk => hk.block k hkl (fun e => hF (e ▸ hFk)) (by simp)) (fun g hg => hk.block g (h.lt g hg).2 (by have := (h.lt g hg).1; omega) (by simp))
theorem OwnD.one {T : TypeId} {sz B b : Nat} {F : Nat → Prop} {w w' : World} {v : Value} {es : List (List Dat)} (h : OwnD T sz B F w v es) (ho : One b w w') (hF : ¬ F b) (hv : v.ownBlock ≠ some b) : OwnD T sz B F w' v es :=
 h.keep (Nat.le_of_eq ho.size.symm) (fun k _ hFk => ho.block k (fun e => hF (e ▸ hFk))) (fun g hg => ho.block g (fun e => hv (e ▸ hg)))
section
variable {o : Oper} {a : Act} {w : World} {K : Act → World → Prop} {Q : Exit → Act → World → Prop} {ops : Array Oper} {rest : List Oper}
theorem owp_store1 (T : TypeId) (p x : Operand) (ho : o.op = .store T p x) (b off : Nat) (hp : a.eval p = .pointer (some ⟨b, off, none⟩)) (u : Value) (hx : a.eval x = u) (hc : u.cells = #[u]) (h1 : u.oneCell' = true) (L : List Value) (TB : TypeId) (hL : w.heap[b]? = some (.cells L.toArray TB (0, 0))) (hn : off < L.length)
   (hi : (Tryz.prog.info? T).map (·.size) = some 1) (h : ∀ w', Hid (w'.heap[b]? = some (.cells (L.set off u).toArray TB (0, 0)) ∧ One b w w') → K (a.put o.dst undef) w') : o.wp Tryz.prog a w K Q := by
 have hcl : w.cell? ⟨b, off, none⟩ = some L[off] := cell_at hL off _ (List.getElem?_eq_getElem hn)
 have hf : w.frozen? ⟨b, off, none⟩ = false := free_at hL _
 have hb : (w.setCell ⟨b, off, none⟩ u).heap[b]? = some (.cells (L.set off u).toArray TB (0, 0)) := by have := blk_set hL off u; simpa using this
 refine owp_skip (w' := w.setCell ⟨b, off, none⟩ u) ?_ (h _ ⟨hb, one_cells b [u] off w⟩)
 have hr := run_store Tryz.prog w ⟨b, off, none⟩ u .plain h1
 rw [hcl] at hr
 simp only [hf] at hr
 cases hq : Tryz.prog.info? T with
 | none => simp [hq] at hi
 | some i =>
   have hs : i.size = 1 := by simp [hq] at hi; omega
   simp [execOp, ho, Instr.storeAt, Instr.sureAddr, hp, hx, storeVar, sizeOf, typeInfo, hq, hs, hc, storeCells, Addr.add, hr, Result.andThen]
theorem wl_store1 (hgd : o.guard = none) (T : TypeId) (p x : Operand) (ho : o.op = .store T p x) (b off : Nat) (hp : a.eval p = .pointer (some ⟨b, off, none⟩)) (u : Value) (hx : a.eval x = u) (hc : u.cells = #[u]) (h1 : u.oneCell' = true) (L : List Value) (TB : TypeId) (hL : w.heap[b]? = some (.cells L.toArray TB (0, 0))) (hn : off < L.length)
   (hi : (Tryz.prog.info? T).map (·.size) = some 1) (h : ∀ w', Hid (w'.heap[b]? = some (.cells (L.set off u).toArray TB (0, 0)) ∧ One b w w') → wpList Tryz.prog ops Q rest (a.put o.dst undef) w') : wpList Tryz.prog ops Q (o :: rest) a w :=
 wpList_plain hgd fun _ hK => owp_store1 T p x ho b off hp u hx hc h1 L TB hL hn hi (fun w' hw => hK _ _ (h w' hw))
theorem owp_add_D (s x : Operand) (TS T : TypeId) (ho : o.op = .call { callee := .builtin .append, args := #[s, x], argTypes := #[TS, TS] }) (z : Value) (sz bytes : Nat) (hU : Tryz.prog.underlying TS = some (.slice T)) (hI : (Tryz.prog.info? T).map (fun i => (i.zero, i.size, i.bytes)) = some (some z, sz, bytes)) (hz : z.cells.size = sz) (hz0 : 0 < sz)
   (B : Nat) (F F' : Nat → Prop) (v : Value) (es : List (List Dat)) (hs : a.eval s = v) (hO : OwnD T sz B F w v es) (hB : B ≤ w.heap.size)
   (g : Nat) (hx : a.eval x = .slice (some ⟨g, 0, none⟩) 1 1) (e : List Dat) (news : List Value) (hnl : news.length = sz) (hel : e.length = sz) (hc : ∀ j u, news[j]? = some u → w.cell? ⟨g, j, none⟩ = some u)
   (hr : ∀ (q : Nat) (d : Dat), e[q]? = some d → ∃ u, news[q]? = some u ∧ Reads F' w u d) (h1 : ∀ u, u ∈ news → u.oneCell' = true) (hF : ∀ j, j < w.heap.size → F j → F' j) (hrow : ∀ j, v.ownBlock = some j → ¬ F' j) (hnew : ∀ j, F' j → j < w.heap.size) (hl : (es.length + 1) * bytes ≤ 140737488355328) (hl2 : es.length + 1 ≤ maxLen)
   (h : ∀ v' w', Hid (OwnD T sz B F' w' v' (es ++ [e]) ∧ w.grownBy w' v.ownBlock ∧ (v'.ownBlock = v.ownBlock ∨ v'.ownBlock = some w.heap.size)) → K (a.put o.dst v') w') : o.wp Tryz.prog a w K Q := by
 obtain ⟨i0, hi0, hz1, hz2, hz3⟩ := info_parts hI
 obtain ⟨cs, hown, _⟩ := hO.own
 obtain ⟨v', w', hrn, h2, h3, h4, h5⟩ := run_append_own_at (P := Tryz.prog) w B TS o.type T i0 z sz bytes hU hi0 hz1 hz2 hz3 hz hz0 v _ cs hown ⟨g, 0, none⟩ 1 1 news (by rw [hnl]; omega) (fun j u hj => by
   have h9 := hc j u hj
   by_cases h0 : j = 0
   · rw [h0] at h9 ⊢; simpa [Addr.add] using h9
   · simpa [Addr.add, h0] using h9) h1 hl2 hl hB
 have hkeep : ∀ {u : Value} {d : Dat}, Reads F' w u d → Reads F' w' u d := fun hu => hu.keep h3.size (fun j hj hFj => h3.block j hj (fun e => hrow j e.symm hFj))
 refine owp_value (v := v') (w' := w') ?_ (h v' w' ⟨?_, h3, h5⟩)
 · simp [execOp, ho, resolve, invoke, builtin, hs, hx, hrn, Result.andThen]
 · exact hO.grow (F' := F') (e := e) hown hel (fun q d hd => by
     obtain ⟨u, k1, k2⟩ := hr q d hd
     exact ⟨u, k1, hkeep k2⟩) h2 h3 hF (fun j hj hFj => by
     rcases h5 with e | e
     · exact hrow j (e ▸ hj) hFj
     · rw [e] at hj
       cases hj
       exact absurd (hnew _ hFj) (by omega))
theorem wl_add_D (hgd : o.guard = none) (s x : Operand) (TS T : TypeId) (ho : o.op = .call { callee := .builtin .append, args := #[s, x], argTypes := #[TS, TS] }) (z : Value) (sz bytes : Nat) (hU : Tryz.prog.underlying TS = some (.slice T)) (hI : (Tryz.prog.info? T).map (fun i => (i.zero, i.size, i.bytes)) = some (some z, sz, bytes)) (hz : z.cells.size = sz) (hz0 : 0 < sz)
   (B : Nat) (F F' : Nat → Prop) (v : Value) (es : List (List Dat)) (hs : a.eval s = v) (hO : OwnD T sz B F w v es) (hB : B ≤ w.heap.size)
   (g : Nat) (hx : a.eval x = .slice (some ⟨g, 0, none⟩) 1 1) (e : List Dat) (news : List Value) (hnl : news.length = sz) (hel : e.length = sz) (hc : ∀ j u, news[j]? = some u → w.cell? ⟨g, j, none⟩ = some u)
   (hr : ∀ (q : Nat) (d : Dat), e[q]? = some d → ∃ u, news[q]? = some u ∧ Reads F' w u d) (h1 : ∀ u, u ∈ news → u.oneCell' = true) (hF : ∀ j, j < w.heap.size → F j → F' j) (hrow : ∀ j, v.ownBlock = some j → ¬ F' j) (hnew : ∀ j, F' j → j < w.heap.size) (hl : (es.length + 1) * bytes ≤ 140737488355328) (hl2 : es.length + 1 ≤ maxLen)
   (h : ∀ v' w', Hid (OwnD T sz B F' w' v' (es ++ [e]) ∧ w.grownBy w' v.ownBlock ∧ (v'.ownBlock = v.ownBlock ∨ v'.ownBlock = some w.heap.size)) → wpList Tryz.prog ops Q rest (a.put o.dst v') w') : wpList Tryz.prog ops Q (o :: rest) a w :=
 wpList_plain hgd fun _ hK => owp_add_D s x TS T ho z sz bytes hU hI hz hz0 B F F' v es hs hO hB g hx e news hnl hel hc hr h1 hF hrow hnew hl hl2 (fun v' w' hw => hK _ _ (h v' w' hw))
end
def Got {α : Type} (p : Ps α) (b : Nat) (s : ByteArray) (val : α → Value → World → World → Prop) (w : World) (e : Ending) (w' : World) : Prop :=
 Kept b none w w' ∧ ((∃ x s' v, p s = some (x, s') ∧ e = .returned v ∧ val x v w w' ∧ RdAt w' b s' false) ∨ (p s = none ∧ e = .panicked [{ v := .iface 189 (.agg #[]), recovered := false }]))
theorem pI_yes {s : ByteArray} {n : Nat} (h : rB s false n = false) : pI n s = some ((rN s false n : Int), rS s false n) := by
 rw [pI, pMap, pN, if_pos h]; rfl
theorem pI_no {s : ByteArray} {n : Nat} (h : rB s false n = true) : pI n s = none := by
 rw [pI, pMap, pN, if_neg (by rw [h]; decide)]; rfl
def vI (x : Int) (v : Value) (_ _ : World) : Prop := v = .int .i64 x
def vT (x : ByteArray) (v : Value) (_ _ : World) : Prop := v = .string x
theorem ipbyte_got (b : Nat) (s : ByteArray) (w : World) (h : RdAt w b s false) : Calls Tryz.prog 189 #[.agg #[.pointer (some ⟨b, 0, none⟩)]] w (Got (pI 1) b s vI w) := by
 cases hs : rB s false 1 with
 | false => exact (ipbyte_yes b s w h hs).mono fun e w' ⟨h1, h2, h3⟩ => ⟨h3, .inl ⟨_, _, _, pI_yes hs, h1, rfl, h2⟩⟩
 | true => exact (ipbyte_no b s w h hs).mono fun e w' ⟨h1, h3⟩ => ⟨h3, .inr ⟨pI_no hs, h1⟩⟩
theorem ipword_got (b : Nat) (s : ByteArray) (w : World) (h : RdAt w b s false) : Calls Tryz.prog 190 #[.agg #[.pointer (some ⟨b, 0, none⟩)]] w (Got (pI 2) b s vI w) := by
 cases hs : rB s false 2 with
 | false => exact (ipword_yes b s w h hs).mono fun e w' ⟨h1, h2, h3⟩ => ⟨h3, .inl ⟨_, _, _, pI_yes hs, h1, rfl, h2⟩⟩
 | true => exact (ipword_no b s w h hs).mono fun e w' ⟨h1, h3⟩ => ⟨h3, .inr ⟨pI_no hs, h1⟩⟩
theorem iptext_got (b : Nat) (s : ByteArray) (w : World) (h : RdAt w b s false) : Calls Tryz.prog 193 #[.agg #[.pointer (some ⟨b, 0, none⟩)]] w (Got pT b s vT w) := by
 cases hs : tB s false with
 | false => exact (iptext_yes b s w h hs).mono fun e w' ⟨h1, h2, h3⟩ => ⟨h3, .inl ⟨_, _, _, by rw [pT, if_pos hs], h1, rfl, h2⟩⟩
 | true => exact (iptext_no b s w h hs).mono fun e w' ⟨h1, h3⟩ => ⟨h3, .inr ⟨by rw [pT, if_neg (by rw [hs]; decide)], h1⟩⟩
theorem many_none {α : Type} {p : Ps α} {s : ByteArray} {k : Nat} (h : pMany p k s = none) : ∀ n, k ≤ n → pMany p n s = none
 | 0, hn => by rw [show k = 0 by omega] at h; exact h
 | n + 1, hn => by
   by_cases e : k = n + 1
   · rw [← e]; exact h
   · rw [pMany, many_none h n (by omega)]; rfl
theorem many_snoc {α : Type} {p : Ps α} {s s1 s2 : ByteArray} {k : Nat} {l : List α} {x : α} (h : pMany p k s = some (l, s1)) (hx : p s1 = some (x, s2)) : pMany p (k + 1) s = some (l ++ [x], s2) := by
 rw [pMany, h]
 show (p s1).map _ = _
 rw [hx]
 rfl
theorem many_fail {α : Type} {p : Ps α} {s s1 : ByteArray} {k : Nat} {l : List α} (h : pMany p k s = some (l, s1)) (hx : p s1 = none) : pMany p (k + 1) s = none := by
 rw [pMany, h]
 show (p s1).map _ = _
 rw [hx]
 rfl
theorem many_len {α : Type} {p : Ps α} {s : ByteArray} : ∀ {k : Nat} {l : List α} {s' : ByteArray}, pMany p k s = some (l, s') → l.length = k
 | 0, l, s', h => by cases h; rfl
 | k + 1, l, s', h => by
   rw [pMany] at h
   cases h1 : pMany p k s with
   | none => rw [h1] at h; cases h
   | some a =>
     rw [h1] at h
     simp only [Option.bind_some] at h
     cases h2 : p a.2 with
     | none => rw [h2] at h; cases h
     | some b =>
       rw [h2] at h
       simp only [Option.map_some, Option.some.injEq, Prod.mk.injEq] at h
       obtain ⟨rfl, rfl⟩ := h
       rw [List.length_append, many_len (l := a.1) (s' := a.2) h1]
       rfl
theorem list_of {α : Type} {p : Ps α} {s s1 : ByteArray} {n : Int} (h : pI 1 s = some (n, s1)) : ∃ k : Nat, n = (k : Int) ∧ k < 256 ∧ pList p s = pMany p k s1 := by
 unfold pI pMap at h
 cases hn : pN 1 s with
 | none => rw [hn] at h; cases h
 | some a =>
   rw [hn] at h
   simp only [Option.bind_some, Option.map_some, Option.some.injEq, Prod.mk.injEq] at h
   obtain ⟨rfl, rfl⟩ := h
   have := ((inv_N 1).back s a.1 a.2 hn).1
   exact ⟨a.1, rfl, by simpa using this, by rw [pList, hn]; rfl⟩
theorem list_no {α : Type} {p : Ps α} {s : ByteArray} (h : pI 1 s = none) : pList p s = none := by
 unfold pI pMap at h
 cases hn : pN 1 s with
 | none => rw [pList, hn]; rfl
 | some a => rw [hn] at h; cases h
end
section
set_option maxRecDepth 100000
open Go.RowKit
section
variable {P : Program} {ops : Array Oper} {o : Oper} {a : Act} {w : World} {Q : Exit → Act → World → Prop} {K : Act → World → Prop}
theorem wpOp_c {i : Nat} (hi : ops[i]? = some o) (hw : Region.wanted o (yielded ops a.tmps) = true) (h : ∀ K' : Act → World → Prop, (∀ a w, K a w → K' a w) → o.wp P a w K' Q) : wpOp P ops Q i K a w := by
 unfold Go.wpOp
 simp only [hi, hw, if_true]
 exact .inl (h _ (fun _ _ h => h))
end
theorem infoAn : (Tryz.prog.info? 118).map (fun i => (i.zero, i.size, i.bytes)) = some (some (.agg #[.int .i64 0, .int .i64 0, .int .i64 0, .string ⟨#[]⟩, .float .f64 0, .int .i64 0, .int .i64 0, .float .f64 0]), 8, 72) := by kernel_rfl
theorem undAn : Tryz.prog.underlying 92 = some (.slice 118) := by kernel_rfl
theorem infoWd : (Tryz.prog.info? 148).map (fun i => (i.zero, i.size, i.bytes)) = some (some (.agg #[.int .i64 0, .int .i64 0, .string ⟨#[]⟩]), 3, 32) := by kernel_rfl
theorem undWd : Tryz.prog.underlying 91 = some (.slice 148) := by kernel_rfl
theorem wdC_one (x : Wd) : wdC [x] = wdV x := by simp [wdC]
theorem anC_one (x : An) : anC [x] = anV x := by simp [anC]
theorem wdC_app (a b : List Wd) : wdC (a ++ b) = wdC a ++ wdC b := by simp [wdC]
theorem anC_app (a b : List An) : anC (a ++ b) = anC a ++ anC b := by simp [anC]
section
variable {O P : Nat → Prop} {N g : Nat} {w wb w3 w4 : World} {v v3 vt vc va : Value} {fm : List Int} {ls : List Lk} {c : Clt}
theorem ClM.growA (h : ClM O N w g vt vc va fm ls c) (hb : Below w.heap.size w wb) (x : An) (hg : wb.grownBy w3 va.ownBlock) (ho : w3.ownsRow N 118 8 v3 (c.ac.length + 1) (anC (c.ac ++ [x]))) (hv : v3.ownBlock = va.ownBlock ∨ v3.ownBlock = some wb.heap.size) (h1 : One g w3 w4) (hk : BxAt w4 g (clC c vt vc v3) 94) : ClM O N w4 g vt vc v3 fm ls { c with ac := c.ac ++ [x] } ∧ Outs (Cfp O g vc va) w w4 ∧ ∀ k, v3.ownBlock = some k → va.ownBlock = some k ∨ w.heap.size ≤ k := by
 have hM := h.keep hb
 have hblk : ∀ k, k < wb.heap.size → va.ownBlock ≠ some k → k ≠ g → w4.heap[k]? = wb.heap[k]? := fun k hk1 hk2 hk3 => (h1.block k hk3).trans (hg.block k hk1 (fun e => hk2 e.symm))
 have hs4 : wb.heap.size ≤ w4.heap.size := by rw [h1.size]; exact hg.size
 have hO : ∀ k, O k → va.ownBlock ≠ some k ∧ k ≠ g := fun k hk => ⟨fun e => h.aO k e hk, fun e => h.gO (e ▸ hk)⟩
 have hcv : ∀ k, vc.ownBlock = some k → v3.ownBlock ≠ some k := fun k hk e => by
   rcases hv with hq | hq
   · exact h.ca k hk (hq ▸ e)
   · rw [hq] at e; cases e; have := (hM.cm.lt _ hk).2; omega
 refine ⟨⟨hk, hM.tr.keep hs4 (fun k hk1 hk2 => hblk k hk1 (hO k hk2).1 (hO k hk2).2), own_rowW hM.cm (fun k hk1 => hblk k (hM.cm.lt k hk1).2 (h.ca k hk1) (fun e => h.cg (e ▸ hk1))), ?_, h.gN, h.oN, Nat.le_trans hM.le hs4, h.gO, h.cg, ?_, h.cO, ?_, hcv⟩, ?_, ?_⟩
 · show w4.ownsRow N 118 8 v3 (c.ac ++ [x]).length (anC (c.ac ++ [x]))
   rw [List.length_append]
   refine own_rowW ho (fun k hk1 => h1.block k (fun e => ?_))
   rcases hv with hq | hq
   · exact h.ag (by rw [← hq, hk1, e])
   · rw [hq] at hk1; cases hk1; have := lt_of_blk hM.blk; omega
 · rcases hv with hq | hq
   · rw [hq]; exact h.ag
   · rw [hq]; intro e; cases e; have := lt_of_blk hM.blk; omega
 · intro k hk1
   rcases hv with hq | hq
   · exact h.aO k (hq ▸ hk1)
   · rw [hq] at hk1; cases hk1; intro hOk; have := hM.tr.lt _ hOk; omega
 · refine ⟨h1.os.trans (hg.os.trans hb.os), h1.tape.trans (hg.tape.trans hb.tape), h1.output.trans (hg.output.trans hb.output), Nat.le_trans hb.size hs4, fun k hk1 hk2 => ?_⟩
   have hk3 : ¬ (k = g ∨ O k ∨ vc.ownBlock = some k ∨ va.ownBlock = some k) := hk2
   rw [hblk k (Nat.lt_of_lt_of_le hk1 hb.size) (fun e => hk3 (.inr (.inr (.inr e)))) (fun e => hk3 (.inl e))]
   exact hb.block k hk1
 · intro k hk1
   rcases hv with hq | hq
   · exact .inl (hq ▸ hk1)
   · rw [hq] at hk1; cases hk1; exact .inr hb.size
theorem ClM.growC (h : ClM O N w g vt vc va fm ls c) (hb : Below w.heap.size w wb) (x : Wd) (hg : wb.grownBy w3 vc.ownBlock) (ho : w3.ownsRow N 148 3 v3 (c.cm.length + 1) (wdC (c.cm ++ [x]))) (hv : v3.ownBlock = vc.ownBlock ∨ v3.ownBlock = some wb.heap.size) (h1 : One g w3 w4) (hk : BxAt w4 g (clC c vt v3 va) 94) : ClM O N w4 g vt v3 va fm ls { c with cm := c.cm ++ [x] } ∧ Outs (Cfp O g vc va) w w4 ∧ ∀ k, v3.ownBlock = some k → vc.ownBlock = some k ∨ w.heap.size ≤ k := by
 have hM := h.keep hb
 have hblk : ∀ k, k < wb.heap.size → vc.ownBlock ≠ some k → k ≠ g → w4.heap[k]? = wb.heap[k]? := fun k hk1 hk2 hk3 => (h1.block k hk3).trans (hg.block k hk1 (fun e => hk2 e.symm))
 have hs4 : wb.heap.size ≤ w4.heap.size := by rw [h1.size]; exact hg.size
 have hO : ∀ k, O k → vc.ownBlock ≠ some k ∧ k ≠ g := fun k hk => ⟨fun e => h.cO k e hk, fun e => h.gO (e ▸ hk)⟩
 have hca : ∀ k, va.ownBlock = some k → vc.ownBlock ≠ some k := fun k hk e => h.ca k e hk
 refine ⟨⟨hk, hM.tr.keep hs4 (fun k hk1 hk2 => hblk k hk1 (hO k hk2).1 (hO k hk2).2), ?_, own_rowW hM.ac (fun k hk1 => hblk k (hM.ac.lt k hk1).2 (hca k hk1) (fun e => h.ag (e ▸ hk1))), h.gN, h.oN, Nat.le_trans hM.le hs4, h.gO, ?_, h.ag, ?_, h.aO, ?_⟩, ?_, ?_⟩
 · show w4.ownsRow N 148 3 v3 (c.cm ++ [x]).length (wdC (c.cm ++ [x]))
   rw [List.length_append]
   refine own_rowW ho (fun k hk1 => h1.block k (fun e => ?_))
   rcases hv with hq | hq
   · exact h.cg (by rw [← hq, hk1, e])
   · rw [hq] at hk1; cases hk1; have := lt_of_blk hM.blk; omega
 · rcases hv with hq | hq
   · rw [hq]; exact h.cg
   · rw [hq]; intro e; cases e; have := lt_of_blk hM.blk; omega
 · intro k hk1
   rcases hv with hq | hq
   · exact h.cO k (hq ▸ hk1)
   · rw [hq] at hk1; cases hk1; intro hOk; have := hM.tr.lt _ hOk; omega
 · intro k hk1 e
   rcases hv with hq | hq
   · exact h.ca k (hq ▸ hk1) e
   · rw [hq] at hk1; cases hk1; have := (hM.ac.lt _ e).2; omega
 · refine ⟨h1.os.trans (hg.os.trans hb.os), h1.tape.trans (hg.tape.trans hb.tape), h1.output.trans (hg.output.trans hb.output), Nat.le_trans hb.size hs4, fun k hk1 hk2 => ?_⟩
   have hk3 : ¬ (k = g ∨ O k ∨ vc.ownBlock = some k ∨ va.ownBlock = some k) := hk2
   rw [hblk k (Nat.lt_of_lt_of_le hk1 hb.size) (fun e => hk3 (.inr (.inr (.inl e)))) (fun e => hk3 (.inl e))]
   exact hb.block k hk1
 · intro k hk1
   rcases hv with hq | hq
   · exact .inl (hq ▸ hk1)
   · rw [hq] at hk1; cases hk1; exact .inr hb.size
theorem ClM.nocm {w w' : World} (h : ClM O N w g vt vc va fm ls c) {c' : Clt} (hc : c'.cm = []) (ha : c'.ac = c.ac) (ho : One g w w') (hb : BxAt w' g (clC c' vt (.slice none 0 0) va) 94) : ClM O N w' g vt (.slice none 0 0) va fm ls c' :=
 ⟨hb, h.tr.keep (Nat.le_of_eq ho.size.symm) (fun k _ hk => ho.block k (fun e => h.gO (e ▸ hk))), by rw [hc]; exact ⟨by simp [wdC], .inl ⟨rfl, rfl⟩⟩, by rw [ha]; exact own_rowW h.ac (fun k hk => ho.block k (fun e => h.ag (e ▸ hk))), h.gN, h.oN, by rw [ho.size]; exact h.le, h.gO, by simp [Value.ownBlock], h.ag, by simp [Value.ownBlock], h.aO, by simp [Value.ownBlock]⟩
theorem Outs.one {O : Nat → Prop} {x y z : World} {g : Nat} (h : Outs O x y) (k : One g y z) (hg : O g) : Outs O x z :=
 ⟨k.os.trans h.os, k.tape.trans h.tape, k.output.trans h.output, by rw [k.size]; exact h.size, fun j hj hn => (k.block j (fun e => hn (e ▸ hg))).trans (h.block j hj hn)⟩
set_option maxHeartbeats 3200000 in
theorem kaccept_any (h : ClM O N w g vt vc va fm ls c) (hm : (c.ac.length + 1) * 72 ≤ 140737488355328) (rc : Int) (rf : Nat) : Calls Tryz.prog 93 #[.pointer (some ⟨g, 0, none⟩), .agg #[.int .i64 rc, .float .f64 rf]] w fun e w' => e = .returned (.tuple #[]) ∧ ∃ v3, ClM O N w' g vt (.slice none 0 0) v3 fm ls { c with op := zeroQ, cm := [], ac := c.ac ++ [(c.op, (rc, rf))] } ∧ Outs (Cfp O g vc va) w w' ∧ ∀ k, v3.ownBlock = some k → va.ownBlock = some k ∨ w.heap.size ≤ k := by
 have hba : Below w.heap.size w (w.alloc (.cells #[.int .i64 rc, .float .f64 rf] 43)) := (Below.refl _ _).alloc (Nat.le_refl _) _
 obtain ⟨wa, ea⟩ : ∃ wa, wa = w.alloc (.cells #[.int .i64 rc, .float .f64 rf] 43) := ⟨_, rfl⟩
 rw [← ea] at hba
 have hbx : BxAt wa w.heap.size [.int .i64 rc, .float .f64 rf] 43 := by rw [ea]; exact heap_alloc_last w _
 have HH := hid h
 have HA := hid ea.symm
 have HM := hid hm
 have HB := hid hba
 obtain ⟨ada, cpa, hva, hcapa, _⟩ := row_open h.ac
 have H0 : Hid (BxAt wa.drew g (clC c vt vc va) 94 ∧ BxAt wa.drew w.heap.size [.int .i64 rc, .float .f64 rf] 43) := hid ⟨h.blk.keep hba.drew, hbx⟩
 have HNg : Hid (g < w.heap.size) := hid (lt_of_blk h.blk)
 clear h hba hbx ea hm hcapa
 subst hva
 have HVa : Hid (Value.slice ada c.ac.length cpa = Value.slice ada c.ac.length cpa) := hid rfl
 go_enter Tryz.func93, Tryz.ntmps93
 go_upto_region 1 with fail
 rw [HA.out]
 refine wp_region_G (S := fun ww => BxAt ww g (clC c vt vc (.slice ada c.ac.length cpa)) 94 ∧ BxAt ww w.heap.size [.int .i64 rc, .float .f64 rf] 43) (ex := [15]) (by kernel_rfl) ?_
 try (change wpAnyG _ _ _ _ _ _ _ _ _ (World.drew _))
 refine wpAnyG_take (i := 0) (v := ?v1) rfl (by kernel_rfl) (fun _ _ _ h => h) (Or.inl ⟨by rfl, ?hy1⟩) H0.out ?rest1
 case hy1 => (intro ww _; go_simp; try with_reducible rfl)
 go_simp
 refine wpAnyG_take (i := 1) (v := ?v2) rfl (by kernel_rfl) (fun _ _ _ h => h) (Or.inl ⟨by rfl, ?hy2⟩) H0.out ?rest2
 case hy2 => (intro ww _; go_simp; try with_reducible rfl)
 go_simp
 refine wpAnyG_take (i := 2) (v := ?v3) rfl (by kernel_rfl) (fun _ _ _ h => h) (Or.inl ⟨by rfl, ?hy3⟩) H0.out ?rest3
 case hy3 => (intro ww _; go_simp; try with_reducible rfl)
 go_simp
 refine wpAnyG_take (i := 3) (v := ?v4) rfl (by kernel_rfl) (fun _ _ _ h => h) (Or.inl ⟨by rfl, ?hy4⟩) H0.out ?rest4
 case hy4 => (intro ww _; go_simp; try with_reducible rfl)
 go_simp
 refine wpAnyG_take (i := 4) (v := ?v5) rfl (by kernel_rfl) (fun _ _ _ h => h) (Or.inl ⟨by rfl, ?hy5⟩) H0.out ?rest5
 case hy5 => (intro ww hS; obtain ⟨hS1, hS2⟩ := hS; have y3 := hS1.cell 3 _ rfl; have y4 := hS1.cell 4 _ rfl; have y5 := hS1.cell 5 _ rfl; have y6 := hS1.cell 6 _ rfl; have y7 := hS1.cell 7 _ rfl; have y8 := hS1.cell 8 _ rfl; have y10 := hS1.cell 10 _ rfl; have z0 := hS2.cell 0 _ rfl; have z1 := hS2.cell 1 _ rfl; go_simp; try with_reducible rfl)
 go_simp
 refine wpAnyG_take (i := 5) (v := ?v6) rfl (by kernel_rfl) (fun _ _ _ h => h) (Or.inl ⟨by rfl, ?hy6⟩) H0.out ?rest6
 case hy6 => (intro ww _; go_simp; try with_reducible rfl)
 go_simp
 refine wpAnyG_take (i := 6) (v := ?v7) rfl (by kernel_rfl) (fun _ _ _ h => h) (Or.inl ⟨by rfl, ?hy7⟩) H0.out ?rest7
 case hy7 => (intro ww _; go_simp; try with_reducible rfl)
 go_simp
 refine wpAnyG_take (i := 7) (v := ?v8) rfl (by kernel_rfl) (fun _ _ _ h => h) (Or.inl ⟨by rfl, ?hy8⟩) H0.out ?rest8
 case hy8 => (intro ww _; go_simp; try with_reducible rfl)
 go_simp
 refine wpAnyG_take (i := 8) (v := ?v9) rfl (by kernel_rfl) (fun _ _ _ h => h) (Or.inl ⟨by rfl, ?hy9⟩) H0.out ?rest9
 case hy9 => (intro ww hS; obtain ⟨hS1, hS2⟩ := hS; have y3 := hS1.cell 3 _ rfl; have y4 := hS1.cell 4 _ rfl; have y5 := hS1.cell 5 _ rfl; have y6 := hS1.cell 6 _ rfl; have y7 := hS1.cell 7 _ rfl; have y8 := hS1.cell 8 _ rfl; have y10 := hS1.cell 10 _ rfl; have z0 := hS2.cell 0 _ rfl; have z1 := hS2.cell 1 _ rfl; go_simp; try with_reducible rfl)
 go_simp
 refine wpAnyG_take (i := 9) (v := ?v10) rfl (by kernel_rfl) (fun _ _ _ h => h) (Or.inl ⟨by rfl, ?hy10⟩) H0.out ?rest10
 case hy10 => (intro ww hS; obtain ⟨hS1, hS2⟩ := hS; have y3 := hS1.cell 3 _ rfl; have y4 := hS1.cell 4 _ rfl; have y5 := hS1.cell 5 _ rfl; have y6 := hS1.cell 6 _ rfl; have y7 := hS1.cell 7 _ rfl; have y8 := hS1.cell 8 _ rfl; have y10 := hS1.cell 10 _ rfl; have z0 := hS2.cell 0 _ rfl; have z1 := hS2.cell 1 _ rfl; go_simp; try with_reducible rfl)
 go_simp
 refine wpAnyG_take (i := 10) (v := ?v11) rfl (by kernel_rfl) (fun _ _ _ h => h) (Or.inl ⟨by rfl, ?hy11⟩) H0.out ?rest11
 case hy11 => (intro ww _; go_simp; try with_reducible rfl)
 go_simp
 refine wpAnyG_all (rs := [11]) (by kernel_rfl) (by simp) ?_
 intro i hi
 obtain rfl := List.mem_singleton.1 hi
 clear hi
 refine wpOp_c rfl (by rfl) (fun K hK => ?_)
 go_simp
 obtain ⟨w2, e2⟩ : ∃ w2, w2 = (wa.alloc (.cells #[.int .i64 c.op.c, .int .i64 c.op.st, .int .i64 c.op.k, .string c.op.key, .float .f64 c.op.b, .int .i64 c.op.id, .int .i64 rc, .float .f64 rf] 118)).drew := ⟨_, rfl⟩
 have hb2 : Below wa.heap.size wa w2 := by rw [e2]; exact ((Below.refl _ _).alloc (Nat.le_refl _) _).drew
 have HX2 : Hid (BxAt w2 wa.heap.size [.int .i64 c.op.c, .int .i64 c.op.st, .int .i64 c.op.k, .string c.op.key, .float .f64 c.op.b, .int .i64 c.op.id, .int .i64 rc, .float .f64 rf] 118) := hid (by rw [e2]; exact heap_alloc_last wa _)
 have H2 : Hid (BxAt w2 g (clC c vt vc (.slice ada c.ac.length cpa)) 94 ∧ BxAt w2 w.heap.size [.int .i64 rc, .float .f64 rf] 43) := hid ⟨(show BxAt wa g (clC c vt vc (.slice ada c.ac.length cpa)) 94 from H0.out.1).keep hb2, (show BxAt wa w.heap.size [.int .i64 rc, .float .f64 rf] 43 from H0.out.2).keep hb2⟩
 have HB2 := hid (HB.out.trans (hb2.mono HB.out.size))
 rw [← e2]
 clear e2 hb2
 refine hK _ _ ⟨fun _ => H2.out, ?_⟩
 clear hK K
 go_simp
 refine wpAnyG_all (rs := [12]) (by kernel_rfl) (by simp) ?_
 intro i hi
 obtain rfl := List.mem_singleton.1 hi
 clear hi
 refine wpOp_c rfl (by rfl) (fun K hK => ?_)
 obtain ⟨i0, hi0, hz0, hz1, hz2⟩ := info_parts infoAn
 refine owp_append_at _ _ 92 rfl N 118 i0 (.agg #[.int .i64 0, .int .i64 0, .int .i64 0, .string ⟨#[]⟩, .float .f64 0, .int .i64 0, .int .i64 0, .float .f64 0]) 8 72 undAn hi0 hz0 hz1 hz2 rfl (by decide) (.slice ada c.ac.length cpa) c.ac.length (anC c.ac) rfl (HH.out.keep HB2.out).ac ⟨wa.heap.size, 0, none⟩ 1 1 (anV (c.op, (rc, rf))) rfl rfl (fun j u hu => by rw [Addr.add_lit, Nat.zero_add]; exact cell_at HX2.out j u hu) (by simp [anV, Value.oneCell']) (by have := HM.out; unfold maxLen; omega) HM.out (HH.out.keep HB2.out).le ?_
 intro v3 w3 hown hgr hv3
 obtain ⟨ad3, cp3, rfl, _, _⟩ := row_open hown
 have HG := hid (And.intro hgr (And.intro (show w3.ownsRow N 118 8 _ (c.ac.length + 1) (anC (c.ac ++ [(c.op, (rc, rf))])) by rw [anC_app, anC_one]; exact hown) hv3))
 have H3 : Hid (BxAt w3 g (clC c vt vc (.slice ada c.ac.length cpa)) 94 ∧ BxAt w3 w.heap.size [.int .i64 rc, .float .f64 rf] 43) := hid ⟨(hgr.block g (lt_of_blk H2.out.1) (fun e => HH.out.ag e.symm)).trans H2.out.1, (hgr.block _ (lt_of_blk H2.out.2) (fun e => by have := (HH.out.ac.lt _ e.symm).2; omega)).trans H2.out.2⟩
 clear hown hgr hv3 hi0 hz0 hz1 hz2
 refine hK _ _ ⟨fun _ => H3.out, ?_⟩
 clear hK K
 go_simp
 refine wpAnyG_take (i := 13) (v := ?v12) rfl (by kernel_rfl) (fun _ _ _ h => h) (Or.inl ⟨by rfl, ?hy12⟩) H3.out ?rest12
 case hy12 => (intro ww _; go_simp; try with_reducible rfl)
 go_simp
 refine wpAnyG_take (i := 14) (v := ?v13) rfl (by kernel_rfl) (fun _ _ _ h => h) (Or.inl ⟨by rfl, ?hy13⟩) H3.out ?rest13
 case hy13 => (intro ww _; go_simp; try with_reducible rfl)
 go_simp
 refine wpAnyG_all (rs := [15]) (by kernel_rfl) (by simp) ?_
 intro i hi
 obtain rfl := List.mem_singleton.1 hi
 clear hi
 refine wpOp_c rfl (by rfl) (fun K hK => ?_)
 refine owp_store1 92 _ _ rfl g 10 (by rfl) (.slice ad3 (c.ac.length + 1) cp3) (by rfl) rfl rfl (clC c vt vc (.slice ada c.ac.length cpa)) 94 H3.out.1 (by simp [clC]) (by kernel_rfl) ?_
 intro w4 Hz
 have HC4 := hid (HH.out.growA HB2.out (c.op, (rc, rf)) HG.out.1 HG.out.2.1 HG.out.2.2 Hz.out.2 Hz.out.1)
 clear Hz
 refine hK _ _ ⟨fun h => absurd (by simp) h, ?_⟩
 clear hK K
 go_simp
 refine wpAnyG_done (by kernel_rfl) ?_ _
 go_simp
 go_wp2_with (first
   | (refine wl_store_blk rfl 41 _ _ rfl g 3 rfl #[.int .i64 0, .int .i64 0, .int .i64 0, .string ⟨#[]⟩, .float .f64 0, .int .i64 0] rfl _ 94 HC4.out.1.blk (by simp [clC]) (by kernel_rfl) (by simp [Value.oneCell']) ?_; go_must (intro w5 Hz; have HC5 := hid (And.intro (HC4.out.1.put (c' := { c with op := zeroQ, ac := c.ac ++ [(c.op, (rc, rf))] }) rfl rfl Hz.out.2 Hz.out.1) (HC4.out.2.1.one Hz.out.2 (.inl rfl))); clear Hz))
   | (have := HC5; refine wl_store1 rfl 91 _ _ rfl g 9 rfl (.slice none 0 0) rfl rfl rfl _ 94 HC5.out.1.blk (by simp [clC]) (by kernel_rfl) ?_; go_must (intro w6 Hz; have HC6 := hid (And.intro (HC5.out.1.nocm (c' := { c with op := zeroQ, cm := [], ac := c.ac ++ [(c.op, (rc, rf))] }) rfl rfl Hz.out.2 Hz.out.1) (HC5.out.2.one Hz.out.2 (.inl rfl))); clear Hz)))
 go_end0
 exact ⟨rfl, _, HC6.out.1, HC6.out.2, HC4.out.2.2⟩
end
end
section
open Go.RowKit
end
section
set_option maxRecDepth 100000
open Go.RowKit
set_option maxHeartbeats 6400000 in
theorem icerts_any {F : Nat → Prop} (ep : Int) (h0 : 0 ≤ ep) (h1 : ep ≤ 60) (v : Value) (l : List Ct) (hl : l.length ≤ maxLen) (hb : ∀ x, x ∈ l → ctR x) (w : World) (hR : Reads F w v (dCts l)) :
   Calls Tryz.prog 199 #[.int .i64 ep, v] w fun e w' => e = .returned (.bool (ctsB ep l)) ∧ Below w.heap.size w w' := by
 obtain ⟨V, eV⟩ : ∃ V, V = ctsB ep l := ⟨_, rfl⟩
 rw [← eV]
 obtain ⟨ad, cap, hv⟩ := hR.form
 rw [List.length_map] at hv
 subst hv
 obtain ⟨n, en⟩ : ∃ n, n = l.length := ⟨_, rfl⟩
 have HR := hid hR
 rw [← en] at hl HR
 have hmi : (n : Int) ≤ 9223372036854775807 := by unfold maxLen at hl; omega
 have HE := hid (And.intro h0 h1)
 clear hR h0 h1
 rw [← en]
 by_cases h4 : 4 < n
 · have h4i : (4 : Int) < (n : Int) := by omega
   have hf : V = false := by rw [eV, ctsB, decide_eq_false (by omega)]; rfl
   subst hf
   clear eV hl hb en h4 HR
   go_enter Tryz.func199, Tryz.ntmps199
   go_wp2
   go_ret
   exact ⟨rfl, Below.refl _ _⟩
 · have h4i : ¬ ((4 : Int) < (n : Int)) := by omega
   have HV : Hid (V = allTo (ctAt ep l) n) := hid (by rw [eV, ctsB, decide_eq_true (by omega), en]; rfl)
   have HN := hid en
   have HL : Hid (n ≤ 4) := hid (by omega)
   have HBd := hid hb
   clear eV hl hb en h4
   go_enter Tryz.func199, Tryz.ntmps199
   go_wp2
   go_loopw [12] (fun i wr => ∃ j : Nat, j ≤ n ∧ i = .int .i64 (j : Int) ∧ allTo (ctAt ep l) j = true ∧ Below w.heap.size w wr)
     (fun i _ => ((n : Int) - intOf i).toNat)
   case atStart => exact ⟨0, Nat.zero_le _, rfl, rfl, Below.refl _ _⟩
   case round =>
     obtain ⟨j, hj, rfl, hok, hB⟩ := hrel
     have HB := hid hB
     have HOk := hid hok
     clear hok hB
     have hj0 : (0 : Int) ≤ (j : Int) := Int.natCast_nonneg _
     by_cases hjn : j = n
     · have hj1 : ¬ ((j : Int) < (n : Int)) := by omega
       have hv : Hid (V = true) := hid (by rw [HV.out, ← hjn]; exact HOk.out)
       clear hj hjn
       go_wp2
       go_ret
       exact ⟨by rw [hv.out]; rfl, HB.out⟩
     · have hj1 : (j : Int) < (n : Int) := by omega
       have hjl : j < l.length := by have := HN.out; omega
       have hR2 := HR.out
       rw [HN.out] at hR2
       obtain ⟨g, off, cp, a8, k8, hv, hp, hg, hc⟩ := ct_at (hR2.under HB.out (Nat.le_refl _)) j hjl
       cases hv
       have HP := hid hp
       have hprev : j ≠ 0 → wr.cell? ⟨g, off + (j - 1) * 9 + 1, none⟩ = some (.int .i64 (l.getD (j - 1) ct0).2.1) := fun hz => by
         obtain ⟨g2, o2, c2, a2, k2, hv2, _, _, hc2⟩ := ct_at (hR2.under HB.out (Nat.le_refl _)) (j - 1) (by omega)
         cases hv2
         exact hc2 1 _ rfl
       have HPr := hid (And.intro hprev hg)
       have HJ := hid (And.intro hj hjn)
       have HT : Hid (ctAt ep l j = (ctB ep (l.getD j ct0) && (decide (j = 0) || decide ((l.getD (j - 1) ct0).2.1 < (l.getD j ct0).2.1)))) := hid rfl
       have HFa : Hid (ctAt ep l j = false → V = false) := hid (fun e => by rw [HV.out]; exact allTo_no j (by omega) e)
       have HTr : Hid (ctAt ep l j = true → allTo (ctAt ep l) (j + 1) = true) := hid (fun e => by rw [allTo, HOk.out, e]; rfl)
       have HYb := hid (HBd.out (l.getD j ct0) (by rw [List.getD_eq_getElem?_getD, List.getElem?_eq_getElem hjl]; exact List.getElem_mem hjl))
       generalize l.getD j ct0 = y at hc HP HT HYb
       generalize (l.getD (j - 1) ct0).2.1 = ps at HPr HT
       have k0 : wr.cell? ⟨g, off + j * 9, none⟩ = some (.int .i64 y.1) := hc 0 _ rfl
       have k1 : wr.cell? ⟨g, off + j * 9 + 1, none⟩ = some (.int .i64 y.2.1) := hc 1 _ rfl
       have k2 : wr.cell? ⟨g, off + j * 9 + 2, none⟩ = some (.int .i64 y.2.2.1.c) := hc 2 _ rfl
       have k3 : wr.cell? ⟨g, off + j * 9 + 3, none⟩ = some (.int .i64 y.2.2.1.st) := hc 3 _ rfl
       have k4 : wr.cell? ⟨g, off + j * 9 + 4, none⟩ = some (.int .i64 y.2.2.1.k) := hc 4 _ rfl
       have k5 : wr.cell? ⟨g, off + j * 9 + 5, none⟩ = some (.string y.2.2.1.key) := hc 5 _ rfl
       have k6 : wr.cell? ⟨g, off + j * 9 + 6, none⟩ = some (.float .f64 y.2.2.1.b) := hc 6 _ rfl
       have k7 : wr.cell? ⟨g, off + j * 9 + 7, none⟩ = some (.int .i64 y.2.2.1.id) := hc 7 _ rfl
       have k8' : wr.cell? ⟨g, off + j * 9 + 8, none⟩ = some (.slice a8 y.2.2.2.length k8) := hc 8 _ rfl
       have hz : (j : Int) ≤ 4 := by have := HL.out; omega
       clear hj hjn hjl hR2 hp hg hc hprev
       go_wp2_with (refine wl_store_blk rfl 163 _ _ rfl wr.heap.size 0 rfl #[.int .i64 y.1, .int .i64 y.2.1, .int .i64 y.2.2.1.c, .int .i64 y.2.2.1.st, .int .i64 y.2.2.1.k, .string y.2.2.1.key, .float .f64 y.2.2.1.b, .int .i64 y.2.2.1.id, .slice a8 y.2.2.2.length k8] rfl [.int .i64 0, .int .i64 0, .int .i64 0, .int .i64 0, .int .i64 0, .string ⟨#[]⟩, .float .f64 0, .int .i64 0, .slice none 0 0] 163 (heap_alloc_last wr _) (by simp) (by kernel_rfl) (by simp [Value.oneCell']) ?_; intro w1 Hz; have H1 : Hid (BxAt w1 wr.heap.size (ctC y (.slice a8 y.2.2.2.length k8)) 163 ∧ Below wr.heap.size wr w1) := hid ⟨Hz.out.1, Hz.out.2.below ((Below.refl wr.heap.size wr).alloc (Nat.le_refl _) _) (Nat.le_refl _)⟩; clear Hz)
       clear k0 k1 k2 k3 k4 k5 k6 k7 k8'
       go_simp
       have HBx : Hid (∀ x : Cls w1, BxAt x.1 wr.heap.size (ctC y (.slice a8 y.2.2.2.length k8)) 163) := hid (fun x => H1.out.1.keep x.2)
       have d0 : ∀ x : Cls w1, x.1.cell? ⟨wr.heap.size, 0, none⟩ = some (.int .i64 y.1) := fun x => (HBx.out x).cell 0 _ rfl
       have d1 : ∀ x : Cls w1, x.1.cell? ⟨wr.heap.size, 1, none⟩ = some (.int .i64 y.2.1) := fun x => (HBx.out x).cell 1 _ rfl
       have d2 : ∀ x : Cls w1, x.1.cell? ⟨wr.heap.size, 2, none⟩ = some (.int .i64 y.2.2.1.c) := fun x => (HBx.out x).cell 2 _ rfl
       have d3 : ∀ x : Cls w1, x.1.cell? ⟨wr.heap.size, 3, none⟩ = some (.int .i64 y.2.2.1.st) := fun x => (HBx.out x).cell 3 _ rfl
       have d4 : ∀ x : Cls w1, x.1.cell? ⟨wr.heap.size, 4, none⟩ = some (.int .i64 y.2.2.1.k) := fun x => (HBx.out x).cell 4 _ rfl
       have d5 : ∀ x : Cls w1, x.1.cell? ⟨wr.heap.size, 5, none⟩ = some (.string y.2.2.1.key) := fun x => (HBx.out x).cell 5 _ rfl
       have d6 : ∀ x : Cls w1, x.1.cell? ⟨wr.heap.size, 6, none⟩ = some (.float .f64 y.2.2.1.b) := fun x => (HBx.out x).cell 6 _ rfl
       have d7 : ∀ x : Cls w1, x.1.cell? ⟨wr.heap.size, 7, none⟩ = some (.int .i64 y.2.2.1.id) := fun x => (HBx.out x).cell 7 _ rfl
       have d8 : ∀ x : Cls w1, x.1.cell? ⟨wr.heap.size, 8, none⟩ = some (.slice a8 y.2.2.2.length k8) := fun x => (HBx.out x).cell 8 _ rfl
       have HCe : Hid (∀ u : World, Below w1.heap.size w1 u → Calls Tryz.prog 206 #[.int .i64 ep, .agg #[.int .i64 y.1, .int .i64 y.2.1, .int .i64 y.2.2.1.c, .int .i64 y.2.2.1.st, .int .i64 y.2.2.1.k, .string y.2.2.1.key, .float .f64 y.2.2.1.b, .int .i64 y.2.2.1.id, .slice a8 y.2.2.2.length k8]] u fun e w' => e = .returned (.bool (ctB ep y)) ∧ Below u.heap.size u w') := hid (fun u hu => icert_any ep HE.out.1 HE.out.2 y a8 _ k8 rfl HYb.out.2.2.1 u ((HP.out.keep H1.out.2 (Nat.le_refl _)).keep hu (Nat.le_refl _)))
       haveI := Cls.ne w1
       cases hct : ctB ep y with
       | false =>
         rw [hct] at HCe HT
         have hf := hid (HFa.out HT.out)
         clear hct
         refine wp_region_cls w1 (by kernel_rfl) (by kernel_rfl) ?_
         repeat (go_big_quiet_step ((first
           | (go_at_call 206; exact Cls.of _ (fun u hu => HCe.out u hu)))))
         refine wpQuiet_nil ?_
         rintro _ ⟨x, rfl⟩
         go_wp2
         go_ret
         exact ⟨by rw [hf.out]; rfl, HB.out.trans ((H1.out.2.trans (x.2.mono H1.out.2.size)).mono HB.out.size)⟩
       | true =>
         rw [hct] at HCe HT
         clear hct
         by_cases hj00 : j = 0
         · have hp := hid (HTr.out (by rw [HT.out, decide_eq_true hj00]; rfl))
           have hd : decide ((0 : Int) < (j : Int)) = false := decide_eq_false (by omega)
           have hd2 : decide (0 < j) = false := decide_eq_false (by omega)
           clear hj00
           refine wp_region_cls w1 (by kernel_rfl) (by kernel_rfl) ?_
           repeat (go_big_quiet_step ((first
             | (go_at_call 206; exact Cls.of _ (fun u hu => HCe.out u hu)))))
           refine wpQuiet_nil ?_
           rintro _ ⟨x, rfl⟩
           go_wp2
           go_roundw
           case rel => exact ⟨j + 1, by have := HJ.out; omega, by go_num, hp.out, HB.out.trans ((H1.out.2.trans (x.2.mono H1.out.2.size)).mono HB.out.size)⟩
           case measure => simp [intOf]; omega
         · obtain ⟨jm, ejm⟩ : ∃ jm : Nat, jm = j - 1 := ⟨_, rfl⟩
           have dp : ∀ x : Cls w1, x.1.cell? ⟨g, off + jm * 9 + 1, none⟩ = some (.int .i64 ps) := fun x => (World.cell?_of_block (a := ⟨g, off + jm * 9 + 1, none⟩) ((x.2.block g (Nat.lt_of_lt_of_le HPr.out.2 H1.out.2.size)).trans (H1.out.2.block g HPr.out.2))).trans (by rw [ejm]; exact HPr.out.1 hj00)
           have hw : IntKind.i64.wrap ((j : Int) - 1) = (jm : Int) := by rw [show (j : Int) - 1 = (jm : Int) by omega]; exact wrap_small _ (by omega) (by omega)
           have hjm0 : (0 : Int) ≤ (jm : Int) := Int.natCast_nonneg _
           have hjm1 : (jm : Int) < (n : Int) := by omega
           have hd : decide ((0 : Int) < (j : Int)) = true := decide_eq_true (by omega)
           have hd2 : decide (0 < j) = true := decide_eq_true (by omega)
           have HT2 : Hid (ctAt ep l j = decide (ps < y.2.1)) := hid (by rw [HT.out, decide_eq_false hj00]; rfl)
           clear ejm hj00
           by_cases hlt : ps < y.2.1
           · have hp := hid (HTr.out (by rw [HT2.out, decide_eq_true hlt]))
             have hle : decide (y.2.1 ≤ ps) = false := decide_eq_false (by omega)
             have hle2 : ¬ (y.2.1 ≤ ps) := by omega
             refine wp_region_cls w1 (by kernel_rfl) (by kernel_rfl) ?_
             repeat (go_big_quiet_step ((first
               | (go_at_call 206; exact Cls.of _ (fun u hu => HCe.out u hu)))))
             refine wpQuiet_nil ?_
             rintro _ ⟨x, rfl⟩
             go_wp2
             go_roundw
             case rel => exact ⟨j + 1, by have := HJ.out; omega, by go_num, hp.out, HB.out.trans ((H1.out.2.trans (x.2.mono H1.out.2.size)).mono HB.out.size)⟩
             case measure => simp [intOf]; omega
           · have hf := hid (HFa.out (by rw [HT2.out, decide_eq_false hlt]))
             have hle : decide (y.2.1 ≤ ps) = true := decide_eq_true (by omega)
             have hle2 : y.2.1 ≤ ps := by omega
             refine wp_region_cls w1 (by kernel_rfl) (by kernel_rfl) ?_
             repeat (go_big_quiet_step ((first
               | (go_at_call 206; exact Cls.of _ (fun u hu => HCe.out u hu)))))
             refine wpQuiet_nil ?_
             rintro _ ⟨x, rfl⟩
             go_wp2
             go_ret
             exact ⟨by rw [hf.out]; rfl, HB.out.trans ((H1.out.2.trans (x.2.mono H1.out.2.size)).mono HB.out.size)⟩
end
end Go.Proofs.YtoepppkadpjonaaGreat
