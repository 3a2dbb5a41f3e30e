/- Texts laid together: WvA0 WvP KlI. -/
import Derived.Test.YtoepppkadpjonaaGreatWiZdM
import Derived.Test.YtoepppkadpjonaaGreatNb9
import Derived.Test.YtoepppkadpjonaaGreatKlHM
import Derived.Test.YtoepppkadpjonaaGreatNb4
namespace Go.Proofs.YtoepppkadpjonaaGreat
section
open Go.RowKit
theorem byE_ok {m : Ms} (h : fitB m = true) (hl : (msL m).length ≤ 65536) : byE m = 0 ∧ byT m = ⟨(msL m).toArray⟩ := by
 have he : byE m = 0 := by rw [byE, if_neg (by rw [fit_kind h]; decide), if_neg (by rw [h]; decide), if_neg (by omega)]
 exact ⟨he, by rw [byT, if_pos he]⟩
theorem told_size (m : Ms) : (⟨(msL m).toArray⟩ : ByteArray).size = (msL m).length := by simp [ByteArray.size]
theorem told_read {m : Ms} (h : fitB m = true) (hb : MsB m) (hl : (msL m).length ≤ 65536) : rdEr ⟨(msL m).toArray⟩ = 0 ∧ rdMs ⟨(msL m).toArray⟩ = normM m := by
 have hs : ¬ 65536 < (⟨(msL m).toArray⟩ : ByteArray).size := by rw [told_size]; omega
 have hw := whole_good h hb.r hl
 exact ⟨by rw [rdEr, if_neg hs, if_neg (by rw [hw]; simp)], by rw [rdMs, if_neg hs, hw]; rfl⟩
end
section
open Go.RowKit
theorem iV_r {n : Nat} {z : Int} (h : iV n z) (hn : n ≤ 2) : iR z := by
 obtain ⟨h0, h1⟩ := h
 have : 256 ^ n ≤ 256 ^ 2 := Nat.pow_le_pow_right (by decide) hn
 have h2 : z.toNat < 65536 := by omega
 exact ⟨by omega, by omega⟩
theorem rqV_r {r : Rq} (h : rqV r) : rqR r := by
 obtain ⟨h1, _, h3⟩ := h
 rcases h1 with h1 | h1
 · obtain ⟨q1, q2, q3, q4, q5⟩ := right_fields h1
   exact ⟨⟨⟨by omega, by omega⟩, ⟨by omega, by omega⟩⟩, ⟨⟨by omega, by omega⟩, ⟨by omega, by omega⟩⟩, by unfold maxLen; omega, h3⟩
 · rw [h1]
   exact ⟨⟨⟨by decide, by decide⟩, ⟨by decide, by decide⟩⟩, ⟨⟨by decide, by decide⟩, ⟨by decide, by decide⟩⟩, by unfold maxLen; decide, by decide⟩
theorem sgV_r {p : Sg} (h : sgV p) : iR p.1 ∧ p.2.size ≤ maxLen := ⟨iV_r (n := 1) h.1 (by decide), by have := h.2; unfold maxLen; omega⟩
theorem sgsV_r {l : List Sg} (h : sgsV l) : sgsR l := ⟨by have := h.1; unfold maxLen; omega, fun p hp => sgV_r (h.2 p hp)⟩
theorem ctV_r {c : Ct} (h : ctV c) : ctR c := ⟨⟨iV_r h.1 (by decide), iV_r h.2.1 (by decide)⟩, rqV_r h.2.2.1, sgsV_r h.2.2.2⟩
theorem cgV_r {c : Cg} (h : cgV c) : cgR c := ⟨⟨iV_r h.1 (by decide), iV_r h.2.1 (by decide)⟩, ⟨by have := h.2.2.1.1; unfold maxLen; omega, fun x hx => ctV_r (h.2.2.1.2 x hx)⟩, sgV_r h.2.2.2⟩
theorem lnV_r {k : Ln} (h : lnV k) : lnR k := by
 obtain ⟨he, hm⟩ := rightC_ep h.1
 have hl := mem_len hm
 exact ⟨⟨by omega, by omega⟩, ⟨by unfold maxLen; omega, fun x hx => by have := mem_in hm x hx; exact ⟨by omega, by omega⟩⟩, sgsV_r h.2⟩
theorem MsV.b {m : Ms} (h : MsV m) : MsB m where
 k := iV_r h.k (by decide)
 ep := iV_r h.ep (by decide)
 v := iV_r h.v (by decide)
 sl := iV_r h.sl (by decide)
 rq := rqV_r h.rq
 rc := by have := h.rs.1; rw [rsB, Bool.and_eq_true, decide_eq_true_eq, decide_eq_true_eq] at this; exact ⟨by omega, by omega⟩
 rf := h.rs.2.2
 tx := by have := h.tx; unfold maxLen; omega
 nx := ⟨by have := h.nx.1; unfold maxLen; omega, fun x hx => iV_r (h.nx.2 x hx) (by decide)⟩
 sg := sgsV_r h.sg
 cg := ⟨by have := h.cg.1; unfold maxLen; omega, fun x hx => cgV_r (h.cg.2 x hx)⟩
 ln := ⟨by have := h.ln.1; unfold maxLen; omega, fun x hx => lnV_r (h.ln.2 x hx)⟩
theorem zero_b : MsB zeroM where
 k := ⟨by decide, by decide⟩
 ep := ⟨by decide, by decide⟩
 v := ⟨by decide, by decide⟩
 sl := ⟨by decide, by decide⟩
 rq := ⟨⟨⟨by decide, by decide⟩, ⟨by decide, by decide⟩⟩, ⟨⟨by decide, by decide⟩, ⟨by decide, by decide⟩⟩, by unfold maxLen; decide, by decide⟩
 rc := ⟨by decide, by decide⟩
 rf := by decide
 tx := by unfold maxLen; decide
 nx := ⟨by unfold maxLen; decide, fun x hx => by cases hx⟩
 sg := ⟨by unfold maxLen; decide, fun x hx => by cases hx⟩
 cg := ⟨by unfold maxLen; decide, fun x hx => by cases hx⟩
 ln := ⟨by unfold maxLen; decide, fun x hx => by cases hx⟩
theorem rd_b (t : ByteArray) : MsB (rdMs t) := by
 unfold rdMs
 split
 · exact zero_b
 · cases h : pWhole t with
   | none => exact zero_b
   | some m => exact (whole_back h).2.2.b
end
section
set_option maxRecDepth 100000
open Go.RowKit
def ownM (m : Ms) : Ms := rdMs (byT m)
set_option maxHeartbeats 6400000 in
theorem kownMsg_any {F : Nat → Prop} (m : Ms) (a13 a14 a15 a16 : Option Addr) (c13 c14 c15 c16 : Nat) (w : World) (hB : MsB m) (hL : MsL F w m (.slice a13 m.nx.length c13) (.slice a14 m.sg.length c14) (.slice a15 m.cg.length c15) (.slice a16 m.ln.length c16)) :
   Calls Tryz.prog 48 #[.agg (msA m a13 a14 a15 a16 c13 c14 c15 c16).toArray] w fun e w' => ∃ (v : Value) (b13 b14 b15 b16 : Option Addr) (d13 d14 d15 d16 : Nat), e = .returned v ∧ v = .agg (msA (ownM m) b13 b14 b15 b16 d13 d14 d15 d16).toArray ∧ MsL (fun k => w.heap.size ≤ k) w' (ownM m) (.slice b13 (ownM m).nx.length d13) (.slice b14 (ownM m).sg.length d14) (.slice b15 (ownM m).cg.length d15) (.slice b16 (ownM m).ln.length d16) ∧ (ownM m).ln.length ≤ d16 ∧ Below w.heap.size w w' := by
 obtain ⟨wa, HA, hb0, h1, h2, h3⟩ := two_new w (.cells (msA m a13 a14 a15 a16 c13 c14 c15 c16).toArray 48) (.cells #[.int .i64 0, .int .i64 0, .int .i64 0, .int .i64 0, .int .i64 0, .int .i64 0, .int .i64 0, .string ⟨#[]⟩, .float .f64 0, .int .i64 0, .int .i64 0, .float .f64 0, .string ⟨#[]⟩, .slice none 0 0, .slice none 0 0, .slice none 0 0, .slice none 0 0] 48)
 have H0 : Hid (Below w.heap.size w wa ∧ BxAt wa w.heap.size (msA m a13 a14 a15 a16 c13 c14 c15 c16) 48 ∧ BxAt wa (w.heap.size + 1) [.int .i64 0, .int .i64 0, .int .i64 0, .int .i64 0, .int .i64 0, .int .i64 0, .int .i64 0, .string ⟨#[]⟩, .float .f64 0, .int .i64 0, .int .i64 0, .float .f64 0, .string ⟨#[]⟩, .slice none 0 0, .slice none 0 0, .slice none 0 0, .slice none 0 0] 48) := hid ⟨hb0, h1, h2⟩
 obtain ⟨A, eA⟩ : ∃ A, A = Value.agg (msA m a13 a14 a15 a16 c13 c14 c15 c16).toArray := ⟨_, rfl⟩
 have HAg := hid eA
 obtain ⟨n, en⟩ : ∃ n, n = ownM m := ⟨_, rfl⟩
 obtain ⟨t, et⟩ : ∃ t, t = byT m := ⟨_, rfl⟩
 have HY := hid (show Tst w 85 #[A] (.tuple #[.string t, .int .i64 (byE m)]) from fun u hu => by rw [eA, et]; exact ibytes_any m hB a13 a14 a15 a16 c13 c14 c15 c16 u (hL.under hu))
 have HR : Hid (∀ u : World, Calls Tryz.prog 86 #[.string t] u fun e w' => ∃ (v : Value) (b13 b14 b15 b16 : Option Addr) (d13 d14 d15 d16 : Nat), e = .returned (.tuple #[v, .int .i64 (rdEr t)]) ∧ v = .agg (msA n b13 b14 b15 b16 d13 d14 d15 d16).toArray ∧ MsL (fun k => u.heap.size ≤ k) w' n (.slice b13 n.nx.length d13) (.slice b14 n.sg.length d14) (.slice b15 n.cg.length d15) (.slice b16 n.ln.length d16) ∧ n.ln.length ≤ d16 ∧ Below u.heap.size u w') := hid (fun u => by
   refine (iread_any t u).mono ?_
   rintro e w' ⟨⟨v, rfl, hv⟩, hb⟩
   rw [show rdMs t = n by rw [en, ownM, et]] at hv
   obtain ⟨b13, d13, b14, d14, b15, d15, b16, d16, hv, hl, hr⟩ := hv
   exact ⟨v, b13, b14, b15, b16, d13, d14, d15, d16, rfl, hv, hl, hr, hb⟩)
 rw [← en]
 generalize byE m = E at HY
 generalize rdEr t = G at HR
 clear en et hB hL hb0 h1 h2 h3
 unfold msA
 simp only [msA] at HA eA
 replace HA := hid HA
 go_enter Tryz.func48, Tryz.ntmps48
 try simp only [List.append]
 go_upto_region 1 with fail
 rw [HA.out, ← eA]
 clear eA
 go_wp2_with (first
   | (have := H3; refine wl_store_blk rfl 48 _ _ rfl (w.heap.size + 1) 0 rfl _ HV.out [.int .i64 0, .int .i64 0, .int .i64 0, .int .i64 0, .int .i64 0, .int .i64 0, .int .i64 0, .string ⟨#[]⟩, .float .f64 0, .int .i64 0, .int .i64 0, .float .f64 0, .string ⟨#[]⟩, .slice none 0 0, .slice none 0 0, .slice none 0 0, .slice none 0 0] 48 H3.out.2.2.1 (by simp [msA]) (by kernel_rfl) (by simp [msA, Value.oneCell']) ?_; go_must (intro w4 Hz; have H4 : Hid (Below w.heap.size w w4 ∧ BxAt w4 (w.heap.size + 1) (msA n b13 b14 b15 b16 d13 d14 d15 d16) 48 ∧ MsL (fun k => w.heap.size + 2 ≤ k) w4 n (.slice b13 n.nx.length d13) (.slice b14 n.sg.length d14) (.slice b15 n.cg.length d15) (.slice b16 n.ln.length d16)) := hid ⟨Hz.out.2.below H3.out.1 (by omega), Hz.out.1, H3.out.2.2.2.kept Hz.out.2 (by show ¬ w.heap.size + 2 ≤ w.heap.size + 1; omega)⟩; clear Hz))
   | (have := H3; refine wl_loadB rfl 48 _ rfl w.heap.size 0 rfl (msA n b13 b14 b15 b16 d13 d14 d15 d16) 48 H3.out.2.1 _ Tryz.underlying48 rfl (by kernel_rfl) v HV.out rfl ?_)
   | (have := H2; refine wl_store_blk rfl 48 _ _ rfl w.heap.size 0 rfl _ HV.out (msA m a13 a14 a15 a16 c13 c14 c15 c16) 48 H2.out.2.1 (by simp [msA]) (by kernel_rfl) (by simp [msA, Value.oneCell']) ?_; go_must (intro w3 Hz; have H3 : Hid (Below w.heap.size w w3 ∧ BxAt w3 w.heap.size (msA n b13 b14 b15 b16 d13 d14 d15 d16) 48 ∧ BxAt w3 (w.heap.size + 1) [.int .i64 0, .int .i64 0, .int .i64 0, .int .i64 0, .int .i64 0, .int .i64 0, .int .i64 0, .string ⟨#[]⟩, .float .f64 0, .int .i64 0, .int .i64 0, .float .f64 0, .string ⟨#[]⟩, .slice none 0 0, .slice none 0 0, .slice none 0 0, .slice none 0 0] 48 ∧ MsL (fun k => w.heap.size + 2 ≤ k) w3 n (.slice b13 n.nx.length d13) (.slice b14 n.sg.length d14) (.slice b15 n.cg.length d15) (.slice b16 n.ln.length d16)) := hid ⟨Hz.out.2.below H2.out.1 (Nat.le_refl _), Hz.out.1, (Hz.out.2.block _ (by omega)).trans H2.out.2.2.1, H2.out.2.2.2.kept Hz.out.2 (by show ¬ w.heap.size + 2 ≤ w.heap.size; omega)⟩; clear Hz))
   | (have := H1; go_at_call 86; go_must (refine (HR.out _).mono ?_; rintro e w2 ⟨v, b13, b14, b15, b16, d13, d14, d15, d16, rfl, hv, hl, hr, hb⟩; have HV := hid hv; have HRm := hid hr; have H2 : Hid (Below w.heap.size w w2 ∧ BxAt w2 w.heap.size (msA m a13 a14 a15 a16 c13 c14 c15 c16) 48 ∧ BxAt w2 (w.heap.size + 1) [.int .i64 0, .int .i64 0, .int .i64 0, .int .i64 0, .int .i64 0, .int .i64 0, .int .i64 0, .string ⟨#[]⟩, .float .f64 0, .int .i64 0, .int .i64 0, .float .f64 0, .string ⟨#[]⟩, .slice none 0 0, .slice none 0 0, .slice none 0 0, .slice none 0 0] 48 ∧ MsL (fun k => w.heap.size + 2 ≤ k) w2 n (.slice b13 n.nx.length d13) (.slice b14 n.sg.length d14) (.slice b15 n.cg.length d15) (.slice b16 n.ln.length d16)) := hid ⟨H1.out.1.trans (hb.mono H1.out.1.size), H1.out.2.1.keep hb, H1.out.2.2.keep hb, hl.mono (fun k _ hk => by have h9 : w1.heap.size ≤ k := hk; have := lt_of_blk H1.out.2.2; show w.heap.size + 2 ≤ k; omega)⟩; clear hv hr hl hb))
   | (go_at_call 85; go_must (refine (HY.out _ H0.out.1).mono ?_; rintro e w1 ⟨rfl, hb⟩; have H1 : Hid (Below w.heap.size w w1 ∧ BxAt w1 w.heap.size (msA m a13 a14 a15 a16 c13 c14 c15 c16) 48 ∧ BxAt w1 (w.heap.size + 1) [.int .i64 0, .int .i64 0, .int .i64 0, .int .i64 0, .int .i64 0, .int .i64 0, .int .i64 0, .string ⟨#[]⟩, .float .f64 0, .int .i64 0, .int .i64 0, .float .f64 0, .string ⟨#[]⟩, .slice none 0 0, .slice none 0 0, .slice none 0 0, .slice none 0 0] 48) := hid ⟨H0.out.1.trans (hb.mono H0.out.1.size), H0.out.2.1.keep hb, H0.out.2.2.keep hb⟩; clear hb))
   | (refine wl_loadB rfl 48 _ rfl w.heap.size 0 rfl (msA m a13 a14 a15 a16 c13 c14 c15 c16) 48 H0.out.2.1 _ Tryz.underlying48 rfl (by kernel_rfl) A HAg.out rfl ?_))
 refine ret_cell1 (s := 2) (ad := ⟨w.heap.size + 1, 0, none⟩) rfl rfl (load_whole H4.out.2.1 _ Tryz.underlying48 rfl (by kernel_rfl)) rfl ?_
 exact ⟨_, b13, b14, b15, b16, d13, d14, d15, d16, rfl, rfl, H4.out.2.2.mono (fun k _ hk => by have h9 : w.heap.size + 2 ≤ k := hk; show w.heap.size ≤ k; omega), HRm.out, H4.out.1⟩
end
end Go.Proofs.YtoepppkadpjonaaGreat
