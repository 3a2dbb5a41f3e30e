/- The program reads a message whole: one that fits. -/
import Derived.Test.YtoepppkadpjonaaGreatWiZcM
namespace Go.Proofs.YtoepppkadpjonaaGreat
set_option maxRecDepth 100000
open Go.RowKit
set_option maxHeartbeats 6400000 in
theorem ireadW_3 (t : ByteArray) (w : World) (m : Ms) (s1 : ByteArray) (hq : pMs t = some (m, s1)) (hz : s1.size = 0) (hf : fitB m = true) : Calls Tryz.prog 138 #[.string t] w (RwPost t w) := by
 have H0 := hid (rw_begin w t)
 have y0 := H0.out.box.cell 0 _ rfl
 have HQ := hid hq
 have HEn : Hid (endOf s1 false = 0) := hid (by show (if 0 < s1.size then (5 : Int) else 0) = 0; exact if_neg (by omega))
 have HN : Hid (pWhole t = some m) := hid (by rw [pWhole, hq]; exact if_pos ⟨hz, hf⟩)
 have HF : Hid (∀ {a13 a14 a15 a16 : Option Addr} {c13 c14 c15 c16 : Nat} (u : World), MsL (fun k => w.heap.size + 3 ≤ k) u m (.slice a13 m.nx.length c13) (.slice a14 m.sg.length c14) (.slice a15 m.cg.length c15) (.slice a16 m.ln.length c16) → Calls Tryz.prog 135 #[.agg #[.int .i64 m.k, .int .i64 m.ep, .int .i64 m.v, .int .i64 m.sl, .int .i64 m.rq.c, .int .i64 m.rq.st, .int .i64 m.rq.k, .string m.rq.key, .float .f64 m.rq.b, .int .i64 m.rq.id, .int .i64 m.rs.1, .float .f64 m.rs.2, .string m.tx, .slice a13 m.nx.length c13, .slice a14 m.sg.length c14, .slice a15 m.cg.length c15, .slice a16 m.ln.length c16]] u fun e w' => e = .returned (.bool true) ∧ Below u.heap.size u w') := hid (fun u hu => by rw [← hf]; exact ifits_any m (msv_b (inv_ms.back t m s1 hq).1) _ _ _ _ _ _ _ _ u hu)
 clear hq hz hf
 go_enter Tryz.func138, Tryz.ntmps138
 go_wp2_with (go_at_call 124; refine (read_any t _).mono ?_; rintro e wz ⟨rfl, hw⟩; replace hw := hw.symm; subst hw)
 refine (ipmsg_got (w.heap.size + 1) t _ H0.out.rd).mono ?_
 rintro e w1 ⟨hk, hor⟩
 rcases hor with ⟨m', s', v1, hp, rfl, ⟨a13, c13, a14, c14, a15, c15, a16, c16, hA, hL, hrm⟩, hr⟩ | ⟨hp, rfl⟩
 rotate_left
 · rw [HQ.out] at hp; cases hp
 rw [HQ.out] at hp
 cases hp
 have HRm := hid hrm
 clear hrm
 have N1 := hid (H0.out.call hk hr)
 have HL1 : Hid (MsL (fun k => w.heap.size + 3 ≤ k) w1 m (.slice a13 m.nx.length c13) (.slice a14 m.sg.length c14) (.slice a15 m.cg.length c15) (.slice a16 m.ln.length c16)) := hid (hL.mono (fun k _ hk2 => by have h9 : _ ≤ k := hk2; simp at h9; show w.heap.size + 3 ≤ k; omega))
 have HA := hid hA
 clear hk hr hL y0 hA
 have HF2 : Hid (∀ (u : World), MsL (fun k => w.heap.size + 3 ≤ k) u m (.slice a13 m.nx.length c13) (.slice a14 m.sg.length c14) (.slice a15 m.cg.length c15) (.slice a16 m.ln.length c16) → Calls Tryz.prog 135 #[v1] u fun e w' => e = .returned (.bool true) ∧ Below u.heap.size u w') := hid (fun u hu => by rw [HA.out]; exact HF.out u hu)
 clear HF
 have HZ : Hid (w.heap.size + 2 < w1.heap.size) := hid (lt_of_blk N1.out.box)
 go_wp2_with (first
   | (have := N3; refine wl_store_blk rfl 48 _ _ rfl w.heap.size 0 rfl #[.int .i64 m.k, .int .i64 m.ep, .int .i64 m.v, .int .i64 m.sl, .int .i64 m.rq.c, .int .i64 m.rq.st, .int .i64 m.rq.k, .string m.rq.key, .float .f64 m.rq.b, .int .i64 m.rq.id, .int .i64 m.rs.1, .float .f64 m.rs.2, .string m.tx, .slice a13 m.nx.length c13, .slice a14 m.sg.length c14, .slice a15 m.cg.length c15, .slice a16 m.ln.length c16] HA.out [.int .i64 0, .int .i64 0, .int .i64 0, .int .i64 0, .int .i64 0, .int .i64 0, .int .i64 0, .string ⟨#[]⟩, .float .f64 0, .int .i64 0, .int .i64 0, .float .f64 0, .string ⟨#[]⟩, .slice none 0 0, .slice none 0 0, .slice none 0 0, .slice none 0 0] 48 N3.out.1.res (by simp) (by kernel_rfl) (by simp [Value.oneCell']) ?_; intro w4 Hz; have N4 : Hid (BxAt w4 w.heap.size [.int .i64 m.k, .int .i64 m.ep, .int .i64 m.v, .int .i64 m.sl, .int .i64 m.rq.c, .int .i64 m.rq.st, .int .i64 m.rq.k, .string m.rq.key, .float .f64 m.rq.b, .int .i64 m.rq.id, .int .i64 m.rs.1, .float .f64 m.rs.2, .string m.tx, .slice a13 m.nx.length c13, .slice a14 m.sg.length c14, .slice a15 m.cg.length c15, .slice a16 m.ln.length c16] 48 ∧ One w.heap.size w3 w4) := hid Hz.out; clear Hz)
   | (have := N3; refine wl_loadA rfl 48 _ rfl w1.heap.size 0 rfl [.int .i64 m.k, .int .i64 m.ep, .int .i64 m.v, .int .i64 m.sl, .int .i64 m.rq.c, .int .i64 m.rq.st, .int .i64 m.rq.k, .string m.rq.key, .float .f64 m.rq.b, .int .i64 m.rq.id, .int .i64 m.rs.1, .float .f64 m.rs.2, .string m.tx, .slice a13 m.nx.length c13, .slice a14 m.sg.length c14, .slice a15 m.cg.length c15, .slice a16 m.ln.length c16] 48 N3.out.2.1 _ Tryz.underlying48 rfl (by kernel_rfl) v1 HA.out rfl ?_)
   | (have := N2; refine wl_loadA rfl 48 _ rfl w1.heap.size 0 rfl [.int .i64 m.k, .int .i64 m.ep, .int .i64 m.v, .int .i64 m.sl, .int .i64 m.rq.c, .int .i64 m.rq.st, .int .i64 m.rq.k, .string m.rq.key, .float .f64 m.rq.b, .int .i64 m.rq.id, .int .i64 m.rs.1, .float .f64 m.rs.2, .string m.tx, .slice a13 m.nx.length c13, .slice a14 m.sg.length c14, .slice a15 m.cg.length c15, .slice a16 m.ln.length c16] 48 N2.out.2.1 _ Tryz.underlying48 rfl (by kernel_rfl) v1 HA.out rfl ?_)
   | (refine wl_store_blk rfl 48 _ _ rfl w1.heap.size 0 rfl #[.int .i64 m.k, .int .i64 m.ep, .int .i64 m.v, .int .i64 m.sl, .int .i64 m.rq.c, .int .i64 m.rq.st, .int .i64 m.rq.k, .string m.rq.key, .float .f64 m.rq.b, .int .i64 m.rq.id, .int .i64 m.rs.1, .float .f64 m.rs.2, .string m.tx, .slice a13 m.nx.length c13, .slice a14 m.sg.length c14, .slice a15 m.cg.length c15, .slice a16 m.ln.length c16] HA.out [.int .i64 0, .int .i64 0, .int .i64 0, .int .i64 0, .int .i64 0, .int .i64 0, .int .i64 0, .string ⟨#[]⟩, .float .f64 0, .int .i64 0, .int .i64 0, .float .f64 0, .string ⟨#[]⟩, .slice none 0 0, .slice none 0 0, .slice none 0 0, .slice none 0 0] 48 (heap_alloc_last w1 _) (by simp) (by kernel_rfl) (by simp [Value.oneCell']) ?_; intro w2 Hz; have N2 : Hid (RwAt w w2 s1 ∧ BxAt w2 w1.heap.size [.int .i64 m.k, .int .i64 m.ep, .int .i64 m.v, .int .i64 m.sl, .int .i64 m.rq.c, .int .i64 m.rq.st, .int .i64 m.rq.k, .string m.rq.key, .float .f64 m.rq.b, .int .i64 m.rq.id, .int .i64 m.rs.1, .float .f64 m.rs.2, .string m.tx, .slice a13 m.nx.length c13, .slice a14 m.sg.length c14, .slice a15 m.cg.length c15, .slice a16 m.ln.length c16] 48 ∧ Below w1.heap.size w1 w2) := hid (by have hb := Hz.out.2.below ((Below.refl w1.heap.size w1).alloc (Nat.le_refl _) _) (Nat.le_refl _); exact ⟨N1.out.under hb, Hz.out.1, hb⟩); clear Hz; have y0 := N2.out.1.box.cell 0 _ rfl)
   | (go_at_call 130; refine (end_any _ s1 false _ N2.out.1.rd).mono ?_; rintro e wz ⟨rfl, hw⟩; rw [HEn.out]; replace hw := hw.symm; subst hw)
   | (go_at_call 135; refine (HF2.out _ (HL1.out.under N2.out.2.2)).mono ?_; rintro e w3 ⟨rfl, hb⟩; have N3 : Hid (RwAt w w3 s1 ∧ BxAt w3 w1.heap.size [.int .i64 m.k, .int .i64 m.ep, .int .i64 m.v, .int .i64 m.sl, .int .i64 m.rq.c, .int .i64 m.rq.st, .int .i64 m.rq.k, .string m.rq.key, .float .f64 m.rq.b, .int .i64 m.rq.id, .int .i64 m.rs.1, .float .f64 m.rs.2, .string m.tx, .slice a13 m.nx.length c13, .slice a14 m.sg.length c14, .slice a15 m.cg.length c15, .slice a16 m.ln.length c16] 48 ∧ Below w2.heap.size w2 w3) := hid ⟨N2.out.1.under hb, N2.out.2.1.keep hb, hb⟩; clear hb y0)
   | (go_at_call 178; refine (ineed_yes _).mono ?_; rintro e wz ⟨rfl, hw⟩; replace hw := hw.symm; subst hw))
 have x0 := N4.out.1.cell 0 _ rfl; have x1 := N4.out.1.cell 1 _ rfl; have x2 := N4.out.1.cell 2 _ rfl; have x3 := N4.out.1.cell 3 _ rfl; have x4 := N4.out.1.cell 4 _ rfl; have x5 := N4.out.1.cell 5 _ rfl; have x6 := N4.out.1.cell 6 _ rfl; have x7 := N4.out.1.cell 7 _ rfl; have x8 := N4.out.1.cell 8 _ rfl; have x9 := N4.out.1.cell 9 _ rfl; have x10 := N4.out.1.cell 10 _ rfl; have x11 := N4.out.1.cell 11 _ rfl; have x12 := N4.out.1.cell 12 _ rfl; have x13 := N4.out.1.cell 13 _ rfl; have x14 := N4.out.1.cell 14 _ rfl; have x15 := N4.out.1.cell 15 _ rfl; have x16 := N4.out.1.cell 16 _ rfl
 refine bodyPost_ret (v := .agg #[.int .i64 m.k, .int .i64 m.ep, .int .i64 m.v, .int .i64 m.sl, .int .i64 m.rq.c, .int .i64 m.rq.st, .int .i64 m.rq.k, .string m.rq.key, .float .f64 m.rq.b, .int .i64 m.rq.id, .int .i64 m.rs.1, .float .f64 m.rs.2, .string m.tx, .slice a13 m.nx.length c13, .slice a14 m.sg.length c14, .slice a15 m.cg.length c15, .slice a16 m.ln.length c16]) (by simp [results, Tryz.results138, go_sem, x0, x1, x2, x3, x4, x5, x6, x7, x8, x9, x10, x11, x12, x13, x14, x15, x16]) rfl ?_
 refine ⟨N4.out.2.below N3.out.1.bel (Nat.le_refl _), .inl ⟨m, _, HN.out, rfl, a13, c13, a14, c14, a15, c15, a16, c16, rfl, ?_, HRm.out⟩⟩
 exact ((((HL1.out.under N2.out.2.2).under N3.out.2.2).kept N4.out.2 (by show ¬ w.heap.size + 3 ≤ w.heap.size; omega))).mono (fun k _ hk => by have h9 : w.heap.size + 3 ≤ k := hk; show w.heap.size ≤ k; omega)
theorem ireadW_any (t : ByteArray) (w : World) : Calls Tryz.prog 138 #[.string t] w (RwPost t w) := by
 cases hq : pMs t with
 | none => exact ireadW_0 t w hq
 | some a =>
   obtain ⟨m, s1⟩ := a
   by_cases hz : s1.size = 0
   · cases hf : fitB m with
     | false => exact ireadW_2 t w m s1 hq hz hf
     | true => exact ireadW_3 t w m s1 hq hz hf
   · exact ireadW_1 t w m s1 hq hz
end Go.Proofs.YtoepppkadpjonaaGreat
