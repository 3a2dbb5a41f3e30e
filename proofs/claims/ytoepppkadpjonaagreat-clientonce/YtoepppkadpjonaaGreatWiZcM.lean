/- The program reads a message whole. -/
import Derived.Test.YtoepppkadpjonaaGreatWiZbM
import Derived.Test.YtoepppkadpjonaaGreatWiSM
namespace Go.Proofs.YtoepppkadpjonaaGreat
set_option maxRecDepth 100000
open Go.RowKit
theorem iv_r {n : Nat} {z : Int} (h : iV n z) (hn : n ≤ 2) : iR z := by
 have h2 := h.2
 have : 256 ^ n ≤ 256 ^ 2 := Nat.pow_le_pow_right (by decide) hn
 have h3 : (256 : Nat) ^ 2 = 65536 := by decide
 exact ⟨by have := h.1; omega, by have := h.1; omega⟩
theorem rqv_r {r : Rq} (h : rqV r) : rqR r := by
 rcases h.1 with h1 | h1
 · obtain ⟨a1, a2, a3, a4, a5⟩ := right_fields h1
   exact ⟨⟨⟨by omega, by omega⟩, ⟨by omega, by omega⟩⟩, ⟨⟨by omega, by omega⟩, ⟨by omega, by omega⟩⟩, by unfold maxLen; omega, h.2.2⟩
 · subst h1
   exact ⟨⟨⟨by decide, by decide⟩, ⟨by decide, by decide⟩⟩, ⟨⟨by decide, by decide⟩, ⟨by decide, by decide⟩⟩, by unfold maxLen; decide, by decide⟩
theorem sgsv_r {l : List Sg} (h : sgsV l) : sgsR l := ⟨by have := h.1; unfold maxLen; omega, fun p hp => ⟨iv_r (n := 1) (h.2 p hp).1 (by decide), by have := (h.2 p hp).2; unfold maxLen; omega⟩⟩
theorem msv_b {m : Ms} (h : MsV m) : MsB m where
 k := iv_r h.k (by decide)
 ep := iv_r h.ep (by decide)
 v := iv_r h.v (by decide)
 sl := iv_r h.sl (by decide)
 rq := rqv_r h.rq
 rc := by
   have := h.rs.1
   rw [rsB, Bool.and_eq_true, decide_eq_true_eq, decide_eq_true_eq] at this
   exact ⟨by omega, by omega⟩
 rf := h.rs.2.2
 tx := by have := h.tx; unfold maxLen; omega
 nx := ⟨by have := h.nx.1; unfold maxLen; omega, fun x hx => iv_r (h.nx.2 x hx) (by decide)⟩
 sg := sgsv_r h.sg
 cg := ⟨by have := h.cg.1; unfold maxLen; omega, fun x hx => by
   obtain ⟨c1, c2, c3, c4⟩ := h.cg.2 x hx
   exact ⟨⟨iv_r c1 (by decide), iv_r c2 (by decide)⟩, ⟨by have := c3.1; unfold maxLen; omega, fun y hy => by
     obtain ⟨d1, d2, d3, d4⟩ := c3.2 y hy
     exact ⟨⟨iv_r d1 (by decide), iv_r d2 (by decide)⟩, rqv_r d3, sgsv_r d4⟩⟩, iv_r (n := 1) c4.1 (by decide), by have := c4.2; unfold maxLen; omega⟩⟩
 ln := ⟨by have := h.ln.1; unfold maxLen; omega, fun x hx => by
   obtain ⟨l1, l2⟩ := h.ln.2 x hx
   obtain ⟨e1, e2⟩ := rightC_ep l1
   have e3 := mem_len e2
   exact ⟨⟨by omega, by omega⟩, ⟨by unfold maxLen; omega, fun y hy => by have := mem_in e2 y hy; exact ⟨by omega, by omega⟩⟩, sgsv_r l2⟩⟩
theorem MsL.kept {F : Nat → Prop} {b : Nat} {w w' : World} {m : Ms} {v13 v14 v15 v16 : Value} (h : MsL F w m v13 v14 v15 v16) (ho : One b w w') (hb : ¬ F b) : MsL F w' m v13 v14 v15 v16 := ⟨h.nx.one ho hb, h.sg.one ho hb, h.cg.one ho hb, h.ln.one ho hb⟩
theorem MsL.mono {F F' : Nat → Prop} {w : World} {m : Ms} {v13 v14 v15 v16 : Value} (h : MsL F w m v13 v14 v15 v16) (hF : ∀ k, k < w.heap.size → F k → F' k) : MsL F' w m v13 v14 v15 v16 := ⟨h.nx.mono hF, h.sg.mono hF, h.cg.mono hF, h.ln.mono hF⟩
section
variable {o : Oper} {a : Act} {w : World} {Q : Exit → Act → World → Prop} {ops : Array Oper} {rest : List Oper}
theorem wl_loadA (hw : Region.wanted o (yielded ops a.tmps) = true) (T : TypeId) (p : Operand) (ho : o.op = .load T p) (b off : Nat) (hp : a.eval p = .pointer (some ⟨b, off, none⟩)) (L : List Value) (TB : TypeId) (hL : w.heap[b]? = some (.cells L.toArray TB (0, 0))) (d : TypeDesc) (hu : Tryz.prog.underlying T = some d) (hd : d.isRow = true) (hi : (Tryz.prog.info? T).map (·.size) = some L.length) (A : Value) (hA : A = .agg L.toArray)
   (h0 : off = 0) (h : wpList Tryz.prog ops Q rest (a.put o.dst A) w) : wpList Tryz.prog ops Q (o :: rest) a w := by
 subst h0
 refine wpList_step fun K hK => ?_
 rw [if_pos hw]
 exact wp_load_mid T p ho b 0 hp L d (fun j v hv => by rw [Nat.zero_add]; exact cell_at hL j v hv) hu hd hi (by rw [← hA]; exact hK _ _ h)
end
def RwPost (t : ByteArray) (w : World) (e : Ending) (w' : World) : Prop :=
 Below w.heap.size w w' ∧ ((∃ m v, pWhole t = some m ∧ e = .returned v ∧ vMs m v w w') ∨ (pWhole t = none ∧ e = .panicked [{ v := .iface 189 (.agg #[]), recovered := false }]))
structure RwAt (w w1 : World) (s : ByteArray) : Prop where
 bel : Below w.heap.size w w1
 res : BxAt w1 w.heap.size [.int .i64 0, .int .i64 0, .int .i64 0, .int .i64 0, .int .i64 0, .int .i64 0, .int .i64 0, .string ⟨#[]⟩, .float .f64 0, .int .i64 0, .int .i64 0, .float .f64 0, .string ⟨#[]⟩, .slice none 0 0, .slice none 0 0, .slice none 0 0, .slice none 0 0] 48
 rd : RdAt w1 (w.heap.size + 1) s false
 box : BxAt w1 (w.heap.size + 2) [.pointer (some ⟨w.heap.size + 1, 0, none⟩)] 222
theorem rw_begin (w : World) (t : ByteArray) : RwAt w (((w.alloc (.cells #[.int .i64 0, .int .i64 0, .int .i64 0, .int .i64 0, .int .i64 0, .int .i64 0, .int .i64 0, .string ⟨#[]⟩, .float .f64 0, .int .i64 0, .int .i64 0, .float .f64 0, .string ⟨#[]⟩, .slice none 0 0, .slice none 0 0, .slice none 0 0, .slice none 0 0] 48)).alloc (.cells #[.string t, .bool false] 207)).alloc (.cells #[.pointer (some ⟨w.heap.size + 1, 0, none⟩)] 222)) t := by
 have h1 : (w.alloc (.cells #[.int .i64 0, .int .i64 0, .int .i64 0, .int .i64 0, .int .i64 0, .int .i64 0, .int .i64 0, .string ⟨#[]⟩, .float .f64 0, .int .i64 0, .int .i64 0, .float .f64 0, .string ⟨#[]⟩, .slice none 0 0, .slice none 0 0, .slice none 0 0, .slice none 0 0] 48)).heap.size = w.heap.size + 1 := by simp
 have h2 : ((w.alloc (.cells #[.int .i64 0, .int .i64 0, .int .i64 0, .int .i64 0, .int .i64 0, .int .i64 0, .int .i64 0, .string ⟨#[]⟩, .float .f64 0, .int .i64 0, .int .i64 0, .float .f64 0, .string ⟨#[]⟩, .slice none 0 0, .slice none 0 0, .slice none 0 0, .slice none 0 0] 48)).alloc (.cells #[.string t, .bool false] 207)).heap.size = w.heap.size + 2 := by simp
 refine ⟨(((Below.refl w.heap.size w).alloc (Nat.le_refl _) _).alloc (by rw [h1]; omega) _).alloc (by rw [h2]; omega) _, ?_, ?_, ?_⟩
 · exact (Below.heap_alloc _ _ _ (by rw [h2]; omega)).trans ((Below.heap_alloc _ _ _ (by rw [h1]; omega)).trans (heap_alloc_last w _))
 · refine (Below.heap_alloc _ _ _ (by rw [h2]; omega)).trans ?_
   have := heap_alloc_last (w.alloc (.cells #[.int .i64 0, .int .i64 0, .int .i64 0, .int .i64 0, .int .i64 0, .int .i64 0, .int .i64 0, .string ⟨#[]⟩, .float .f64 0, .int .i64 0, .int .i64 0, .float .f64 0, .string ⟨#[]⟩, .slice none 0 0, .slice none 0 0, .slice none 0 0, .slice none 0 0] 48)) (.cells #[.string t, .bool false] 207)
   rw [h1] at this
   exact this
 · have := heap_alloc_last ((w.alloc (.cells #[.int .i64 0, .int .i64 0, .int .i64 0, .int .i64 0, .int .i64 0, .int .i64 0, .int .i64 0, .string ⟨#[]⟩, .float .f64 0, .int .i64 0, .int .i64 0, .float .f64 0, .string ⟨#[]⟩, .slice none 0 0, .slice none 0 0, .slice none 0 0, .slice none 0 0] 48)).alloc (.cells #[.string t, .bool false] 207)) (.cells #[.pointer (some ⟨w.heap.size + 1, 0, none⟩)] 222)
   rw [h2] at this
   exact this
theorem RwAt.call {w w1 w2 : World} {s s' : ByteArray} (h : RwAt w w1 s) (hk : Kept (w.heap.size + 1) none w1 w2) (hr : RdAt w2 (w.heap.size + 1) s' false) : RwAt w w2 s' :=
 ⟨h.bel.trans (hk.below (Nat.le_trans h.bel.size (Nat.le_refl _)) (by omega) (fun g hg => by cases hg)), h.res.kept hk (by omega), hr, h.box.kept hk (by omega)⟩
theorem RwAt.under {w w1 w2 : World} {s : ByteArray} (h : RwAt w w1 s) (hb : Below w1.heap.size w1 w2) : RwAt w w2 s :=
 h.call ⟨hb.os, hb.tape, hb.output, hb.size, fun k hk _ _ => hb.block k hk⟩ ((hb.block _ h.rd.lt).trans h.rd)
set_option maxHeartbeats 6400000 in
theorem ireadW_0 (t : ByteArray) (w : World) (hq : pMs t = none) : Calls Tryz.prog 138 #[.string t] w (RwPost t w) := by
 have H0 := hid (rw_begin w t)
 have y0 := H0.out.box.cell 0 _ rfl
 have HQ := hid hq
 clear hq
 go_enter Tryz.func138, Tryz.ntmps138
 go_wp2_with (go_at_call 124; refine (read_any t _).mono ?_; rintro e wz ⟨rfl, hw⟩; replace hw := hw.symm; subst hw)
 refine (ipmsg_got (w.heap.size + 1) t _ H0.out.rd).mono ?_
 rintro e w1 ⟨hk, hor⟩
 rcases hor with ⟨m, s1, v1, hp, _⟩ | ⟨hp, rfl⟩
 · rw [HQ.out] at hp; cases hp
 have HX := hid hk
 clear hk hp
 go_wp2
 exact ⟨rfl, H0.out.bel.trans (HX.out.below (Nat.le_trans H0.out.bel.size (Nat.le_refl _)) (by omega) (fun g hg => by cases hg)), .inr ⟨by rw [pWhole, HQ.out]; rfl, rfl⟩⟩
set_option maxHeartbeats 6400000 in
theorem ireadW_1 (t : ByteArray) (w : World) (m : Ms) (s1 : ByteArray) (hq : pMs t = some (m, s1)) (hz : s1.size ≠ 0) : Calls Tryz.prog 138 #[.string t] w (RwPost t w) := by
 have H0 := hid (rw_begin w t)
 have y0 := H0.out.box.cell 0 _ rfl
 have HQ := hid hq
 have HEn : Hid (endOf s1 false = 5) := hid (by show (if 0 < s1.size then (5 : Int) else 0) = 5; exact if_pos (by omega))
 have HN : Hid (pWhole t = none) := hid (by rw [pWhole, hq]; exact if_neg (fun h => hz h.1))
 clear hq hz
 go_enter Tryz.func138, Tryz.ntmps138
 go_wp2_with (go_at_call 124; refine (read_any t _).mono ?_; rintro e wz ⟨rfl, hw⟩; replace hw := hw.symm; subst hw)
 refine (ipmsg_got (w.heap.size + 1) t _ H0.out.rd).mono ?_
 rintro e w1 ⟨hk, hor⟩
 rcases hor with ⟨m', s', v1, hp, rfl, ⟨a13, c13, a14, c14, a15, c15, a16, c16, hA, hL, _⟩, hr⟩ | ⟨hp, rfl⟩
 rotate_left
 · rw [HQ.out] at hp; cases hp
 rw [HQ.out] at hp
 cases hp
 have N1 := hid (H0.out.call hk hr)
 have HL1 : Hid (MsL (fun k => w.heap.size + 3 ≤ k) w1 m (.slice a13 m.nx.length c13) (.slice a14 m.sg.length c14) (.slice a15 m.cg.length c15) (.slice a16 m.ln.length c16)) := hid (hL.mono (fun k _ hk2 => by have h9 : _ ≤ k := hk2; simp at h9; show w.heap.size + 3 ≤ k; omega))
 have HA := hid hA
 clear hk hr hL y0 hA
 go_wp2_with (first
   | (refine wl_store_blk rfl 48 _ _ rfl w1.heap.size 0 rfl #[.int .i64 m.k, .int .i64 m.ep, .int .i64 m.v, .int .i64 m.sl, .int .i64 m.rq.c, .int .i64 m.rq.st, .int .i64 m.rq.k, .string m.rq.key, .float .f64 m.rq.b, .int .i64 m.rq.id, .int .i64 m.rs.1, .float .f64 m.rs.2, .string m.tx, .slice a13 m.nx.length c13, .slice a14 m.sg.length c14, .slice a15 m.cg.length c15, .slice a16 m.ln.length c16] HA.out [.int .i64 0, .int .i64 0, .int .i64 0, .int .i64 0, .int .i64 0, .int .i64 0, .int .i64 0, .string ⟨#[]⟩, .float .f64 0, .int .i64 0, .int .i64 0, .float .f64 0, .string ⟨#[]⟩, .slice none 0 0, .slice none 0 0, .slice none 0 0, .slice none 0 0] 48 (heap_alloc_last w1 _) (by simp) (by kernel_rfl) (by simp [Value.oneCell']) ?_; intro w2 Hz; have N2 : Hid (RwAt w w2 s1 ∧ BxAt w2 w1.heap.size [.int .i64 m.k, .int .i64 m.ep, .int .i64 m.v, .int .i64 m.sl, .int .i64 m.rq.c, .int .i64 m.rq.st, .int .i64 m.rq.k, .string m.rq.key, .float .f64 m.rq.b, .int .i64 m.rq.id, .int .i64 m.rs.1, .float .f64 m.rs.2, .string m.tx, .slice a13 m.nx.length c13, .slice a14 m.sg.length c14, .slice a15 m.cg.length c15, .slice a16 m.ln.length c16] 48 ∧ Below w1.heap.size w1 w2) := hid (by have hb := Hz.out.2.below ((Below.refl w1.heap.size w1).alloc (Nat.le_refl _) _) (Nat.le_refl _); exact ⟨N1.out.under hb, Hz.out.1, hb⟩); clear Hz; have y0 := N2.out.1.box.cell 0 _ rfl)
   | (go_at_call 130; refine (end_any _ s1 false _ N2.out.1.rd).mono ?_; rintro e wz ⟨rfl, hw⟩; rw [HEn.out]; replace hw := hw.symm; subst hw)
   | (go_at_call 178; refine (ineed_no _).mono ?_; rintro e wz ⟨rfl, hw⟩; replace hw := hw.symm; subst hw))
 exact ⟨rfl, N2.out.1.bel, .inr ⟨HN.out, rfl⟩⟩
set_option maxHeartbeats 6400000 in
theorem ireadW_2 (t : ByteArray) (w : World) (m : Ms) (s1 : ByteArray) (hq : pMs t = some (m, s1)) (hz : s1.size = 0) (hf : fitB m = false) : Calls Tryz.prog 138 #[.string t] w (RwPost t w) := by
 have H0 := hid (rw_begin w t)
 have y0 := H0.out.box.cell 0 _ rfl
 have HQ := hid hq
 have HEn : Hid (endOf s1 false = 0) := hid (by show (if 0 < s1.size then (5 : Int) else 0) = 0; exact if_neg (by omega))
 have HN : Hid (pWhole t = none) := hid (by rw [pWhole, hq]; exact if_neg (fun h => by rw [hf] at h; cases h.2))
 have HF : Hid (∀ {a13 a14 a15 a16 : Option Addr} {c13 c14 c15 c16 : Nat} (u : World), MsL (fun k => w.heap.size + 3 ≤ k) u m (.slice a13 m.nx.length c13) (.slice a14 m.sg.length c14) (.slice a15 m.cg.length c15) (.slice a16 m.ln.length c16) → Calls Tryz.prog 135 #[.agg #[.int .i64 m.k, .int .i64 m.ep, .int .i64 m.v, .int .i64 m.sl, .int .i64 m.rq.c, .int .i64 m.rq.st, .int .i64 m.rq.k, .string m.rq.key, .float .f64 m.rq.b, .int .i64 m.rq.id, .int .i64 m.rs.1, .float .f64 m.rs.2, .string m.tx, .slice a13 m.nx.length c13, .slice a14 m.sg.length c14, .slice a15 m.cg.length c15, .slice a16 m.ln.length c16]] u fun e w' => e = .returned (.bool false) ∧ Below u.heap.size u w') := hid (fun u hu => by rw [← hf]; exact ifits_any m (msv_b (inv_ms.back t m s1 hq).1) _ _ _ _ _ _ _ _ u hu)
 clear hq hz hf
 go_enter Tryz.func138, Tryz.ntmps138
 go_wp2_with (go_at_call 124; refine (read_any t _).mono ?_; rintro e wz ⟨rfl, hw⟩; replace hw := hw.symm; subst hw)
 refine (ipmsg_got (w.heap.size + 1) t _ H0.out.rd).mono ?_
 rintro e w1 ⟨hk, hor⟩
 rcases hor with ⟨m', s', v1, hp, rfl, ⟨a13, c13, a14, c14, a15, c15, a16, c16, hA, hL, _⟩, hr⟩ | ⟨hp, rfl⟩
 rotate_left
 · rw [HQ.out] at hp; cases hp
 rw [HQ.out] at hp
 cases hp
 have N1 := hid (H0.out.call hk hr)
 have HL1 : Hid (MsL (fun k => w.heap.size + 3 ≤ k) w1 m (.slice a13 m.nx.length c13) (.slice a14 m.sg.length c14) (.slice a15 m.cg.length c15) (.slice a16 m.ln.length c16)) := hid (hL.mono (fun k _ hk2 => by have h9 : _ ≤ k := hk2; simp at h9; show w.heap.size + 3 ≤ k; omega))
 have HA := hid hA
 clear hk hr hL y0 hA
 have HF2 : Hid (∀ (u : World), MsL (fun k => w.heap.size + 3 ≤ k) u m (.slice a13 m.nx.length c13) (.slice a14 m.sg.length c14) (.slice a15 m.cg.length c15) (.slice a16 m.ln.length c16) → Calls Tryz.prog 135 #[v1] u fun e w' => e = .returned (.bool false) ∧ Below u.heap.size u w') := hid (fun u hu => by rw [HA.out]; exact HF.out u hu)
 clear HF
 go_wp2_with (first
   | (have := N2; refine wl_loadA rfl 48 _ rfl w1.heap.size 0 rfl [.int .i64 m.k, .int .i64 m.ep, .int .i64 m.v, .int .i64 m.sl, .int .i64 m.rq.c, .int .i64 m.rq.st, .int .i64 m.rq.k, .string m.rq.key, .float .f64 m.rq.b, .int .i64 m.rq.id, .int .i64 m.rs.1, .float .f64 m.rs.2, .string m.tx, .slice a13 m.nx.length c13, .slice a14 m.sg.length c14, .slice a15 m.cg.length c15, .slice a16 m.ln.length c16] 48 N2.out.2.1 _ Tryz.underlying48 rfl (by kernel_rfl) v1 HA.out rfl ?_)
   | (refine wl_store_blk rfl 48 _ _ rfl w1.heap.size 0 rfl #[.int .i64 m.k, .int .i64 m.ep, .int .i64 m.v, .int .i64 m.sl, .int .i64 m.rq.c, .int .i64 m.rq.st, .int .i64 m.rq.k, .string m.rq.key, .float .f64 m.rq.b, .int .i64 m.rq.id, .int .i64 m.rs.1, .float .f64 m.rs.2, .string m.tx, .slice a13 m.nx.length c13, .slice a14 m.sg.length c14, .slice a15 m.cg.length c15, .slice a16 m.ln.length c16] HA.out [.int .i64 0, .int .i64 0, .int .i64 0, .int .i64 0, .int .i64 0, .int .i64 0, .int .i64 0, .string ⟨#[]⟩, .float .f64 0, .int .i64 0, .int .i64 0, .float .f64 0, .string ⟨#[]⟩, .slice none 0 0, .slice none 0 0, .slice none 0 0, .slice none 0 0] 48 (heap_alloc_last w1 _) (by simp) (by kernel_rfl) (by simp [Value.oneCell']) ?_; intro w2 Hz; have N2 : Hid (RwAt w w2 s1 ∧ BxAt w2 w1.heap.size [.int .i64 m.k, .int .i64 m.ep, .int .i64 m.v, .int .i64 m.sl, .int .i64 m.rq.c, .int .i64 m.rq.st, .int .i64 m.rq.k, .string m.rq.key, .float .f64 m.rq.b, .int .i64 m.rq.id, .int .i64 m.rs.1, .float .f64 m.rs.2, .string m.tx, .slice a13 m.nx.length c13, .slice a14 m.sg.length c14, .slice a15 m.cg.length c15, .slice a16 m.ln.length c16] 48 ∧ Below w1.heap.size w1 w2) := hid (by have hb := Hz.out.2.below ((Below.refl w1.heap.size w1).alloc (Nat.le_refl _) _) (Nat.le_refl _); exact ⟨N1.out.under hb, Hz.out.1, hb⟩); clear Hz; have y0 := N2.out.1.box.cell 0 _ rfl)
   | (go_at_call 130; refine (end_any _ s1 false _ N2.out.1.rd).mono ?_; rintro e wz ⟨rfl, hw⟩; rw [HEn.out]; replace hw := hw.symm; subst hw)
   | (go_at_call 135; refine (HF2.out _ (HL1.out.under N2.out.2.2)).mono ?_; rintro e w3 ⟨rfl, hb⟩; have N3 : Hid (RwAt w w3 s1 ∧ BxAt w3 w1.heap.size [.int .i64 m.k, .int .i64 m.ep, .int .i64 m.v, .int .i64 m.sl, .int .i64 m.rq.c, .int .i64 m.rq.st, .int .i64 m.rq.k, .string m.rq.key, .float .f64 m.rq.b, .int .i64 m.rq.id, .int .i64 m.rs.1, .float .f64 m.rs.2, .string m.tx, .slice a13 m.nx.length c13, .slice a14 m.sg.length c14, .slice a15 m.cg.length c15, .slice a16 m.ln.length c16] 48 ∧ Below w2.heap.size w2 w3) := hid ⟨N2.out.1.under hb, N2.out.2.1.keep hb, hb⟩; clear hb y0)
   | (go_at_call 178; refine (ineed_no _).mono ?_; rintro e wz ⟨rfl, hw⟩; replace hw := hw.symm; subst hw))
 exact ⟨rfl, N3.out.1.bel, .inr ⟨HN.out, rfl⟩⟩
end Go.Proofs.YtoepppkadpjonaaGreat
