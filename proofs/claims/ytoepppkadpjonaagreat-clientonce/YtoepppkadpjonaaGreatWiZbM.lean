/- The program's parts of a message: all of it. -/
import Derived.Test.YtoepppkadpjonaaGreatNb10
namespace Go.Proofs.YtoepppkadpjonaaGreat
set_option maxRecDepth 100000
open Go.RowKit
def vMs (m : Ms) (v : Value) (w w' : World) : Prop := ∃ a13 c13 a14 c14 a15 c15 a16 c16, v = .agg #[.int .i64 m.k, .int .i64 m.ep, .int .i64 m.v, .int .i64 m.sl, .int .i64 m.rq.c, .int .i64 m.rq.st, .int .i64 m.rq.k, .string m.rq.key, .float .f64 m.rq.b, .int .i64 m.rq.id, .int .i64 m.rs.1, .float .f64 m.rs.2, .string m.tx, .slice a13 m.nx.length c13, .slice a14 m.sg.length c14, .slice a15 m.cg.length c15, .slice a16 m.ln.length c16] ∧ MsL (fun k => w.heap.size ≤ k) w' m (.slice a13 m.nx.length c13) (.slice a14 m.sg.length c14) (.slice a15 m.cg.length c15) (.slice a16 m.ln.length c16) ∧ m.ln.length ≤ c16
set_option maxHeartbeats 6400000 in
theorem ipmsg_got (b : Nat) (s : ByteArray) (w : World) (h : RdAt w b s false) : Calls Tryz.prog 177 #[.agg #[.pointer (some ⟨b, 0, none⟩)]] w (Got pMs b s vMs w) := by
 have M0 := hid ((pr_begin h [.int .i64 0, .int .i64 0, .int .i64 0, .int .i64 0, .int .i64 0, .int .i64 0, .int .i64 0, .string ⟨#[]⟩, .float .f64 0, .int .i64 0, .int .i64 0, .float .f64 0, .string ⟨#[]⟩, .slice none 0 0, .slice none 0 0, .slice none 0 0, .slice none 0 0] 48).under ((Below.refl _ _).alloc (Nat.le_refl _) (.cells #[.int .i64 0, .int .i64 0, .int .i64 0, .int .i64 0, .int .i64 0, .int .i64 0, .int .i64 0, .string ⟨#[]⟩, .float .f64 0, .int .i64 0, .int .i64 0, .float .f64 0, .string ⟨#[]⟩, .slice none 0 0, .slice none 0 0, .slice none 0 0, .slice none 0 0] 48)))
 have D0 : Hid (BxAt (((w.alloc (.cells #[.pointer (some ⟨b, 0, none⟩)] 222)).alloc (.cells #[.int .i64 0, .int .i64 0, .int .i64 0, .int .i64 0, .int .i64 0, .int .i64 0, .int .i64 0, .string ⟨#[]⟩, .float .f64 0, .int .i64 0, .int .i64 0, .float .f64 0, .string ⟨#[]⟩, .slice none 0 0, .slice none 0 0, .slice none 0 0, .slice none 0 0] 48)).alloc (.cells #[.int .i64 0, .int .i64 0, .int .i64 0, .int .i64 0, .int .i64 0, .int .i64 0, .int .i64 0, .string ⟨#[]⟩, .float .f64 0, .int .i64 0, .int .i64 0, .float .f64 0, .string ⟨#[]⟩, .slice none 0 0, .slice none 0 0, .slice none 0 0, .slice none 0 0] 48)) (w.heap.size + 2) [.int .i64 0, .int .i64 0, .int .i64 0, .int .i64 0, .int .i64 0, .int .i64 0, .int .i64 0, .string ⟨#[]⟩, .float .f64 0, .int .i64 0, .int .i64 0, .float .f64 0, .string ⟨#[]⟩, .slice none 0 0, .slice none 0 0, .slice none 0 0, .slice none 0 0] 48) := hid (by
   have := heap_alloc_last ((w.alloc (.cells #[.pointer (some ⟨b, 0, none⟩)] 222)).alloc (.cells #[.int .i64 0, .int .i64 0, .int .i64 0, .int .i64 0, .int .i64 0, .int .i64 0, .int .i64 0, .string ⟨#[]⟩, .float .f64 0, .int .i64 0, .int .i64 0, .float .f64 0, .string ⟨#[]⟩, .slice none 0 0, .slice none 0 0, .slice none 0 0, .slice none 0 0] 48)) (.cells #[.int .i64 0, .int .i64 0, .int .i64 0, .int .i64 0, .int .i64 0, .int .i64 0, .int .i64 0, .string ⟨#[]⟩, .float .f64 0, .int .i64 0, .int .i64 0, .float .f64 0, .string ⟨#[]⟩, .slice none 0 0, .slice none 0 0, .slice none 0 0, .slice none 0 0] 48)
   rw [show ((w.alloc (.cells #[.pointer (some ⟨b, 0, none⟩)] 222)).alloc (.cells #[.int .i64 0, .int .i64 0, .int .i64 0, .int .i64 0, .int .i64 0, .int .i64 0, .int .i64 0, .string ⟨#[]⟩, .float .f64 0, .int .i64 0, .int .i64 0, .float .f64 0, .string ⟨#[]⟩, .slice none 0 0, .slice none 0 0, .slice none 0 0, .slice none 0 0] 48)).heap.size = w.heap.size + 2 by simp] at this
   exact this)
 have y0 := M0.out.box.cell 0 _ rfl
 have hlt := h.lt
 clear h
 go_enter Tryz.func177, Tryz.ntmps177
 try simp only [List.append]
 try go_wp2_with fail
 refine (ipbyte_got b s _ M0.out.rd).mono ?_
 rintro e w1 ⟨hk, hor⟩
 rcases hor with ⟨k, s1, v1, hp, rfl, rfl, hr⟩ | ⟨hp, rfl⟩
 rotate_left
 · have HX := hid (And.intro hp hk)
   clear hp hk
   go_wp2
   exact ⟨rfl, M0.out.kept.trans HX.out.2 (.inl rfl), .inr ⟨by have ql := HX.out.1; simp [pMs, pMap, pSeq, pMem, pSgs, MsT.m, ql], rfl⟩⟩
 have N1 := hid (M0.out.call hk hr)
 have C1 := hid (D0.out.kept hk (by omega))
 have HP1 := hid hp
 clear hk hr hp y0
 have y0 := N1.out.box.cell 0 _ rfl
 go_wp2_with (refine wl_store1 rfl 3 _ _ rfl (w.heap.size + 2) 0 rfl (.int .i64 k) rfl rfl rfl [.int .i64 0, .int .i64 0, .int .i64 0, .int .i64 0, .int .i64 0, .int .i64 0, .int .i64 0, .string ⟨#[]⟩, .float .f64 0, .int .i64 0, .int .i64 0, .float .f64 0, .string ⟨#[]⟩, .slice none 0 0, .slice none 0 0, .slice none 0 0, .slice none 0 0] 48 C1.out (by simp) (by kernel_rfl) ?_; intro u1 Hz; have M1 : Hid (PrAt b w u1 s1 [.int .i64 0, .int .i64 0, .int .i64 0, .int .i64 0, .int .i64 0, .int .i64 0, .int .i64 0, .string ⟨#[]⟩, .float .f64 0, .int .i64 0, .int .i64 0, .float .f64 0, .string ⟨#[]⟩, .slice none 0 0, .slice none 0 0, .slice none 0 0, .slice none 0 0] 48) := hid (N1.out.other Hz.out.2 (by omega)); have D1 : Hid (BxAt u1 (w.heap.size + 2) [.int .i64 k, .int .i64 0, .int .i64 0, .int .i64 0, .int .i64 0, .int .i64 0, .int .i64 0, .string ⟨#[]⟩, .float .f64 0, .int .i64 0, .int .i64 0, .float .f64 0, .string ⟨#[]⟩, .slice none 0 0, .slice none 0 0, .slice none 0 0, .slice none 0 0] 48) := hid Hz.out.1; clear Hz y0; have y0 := M1.out.box.cell 0 _ rfl)
 try go_wp2_with fail
 refine (ipword_got b s1 _ M1.out.rd).mono ?_
 rintro e w2 ⟨hk, hor⟩
 rcases hor with ⟨ep, s2, v2, hp, rfl, rfl, hr⟩ | ⟨hp, rfl⟩
 rotate_left
 · have HX := hid (And.intro hp hk)
   clear hp hk
   go_wp2
   exact ⟨rfl, M1.out.kept.trans HX.out.2 (.inl rfl), .inr ⟨by have q0 := HP1.out; have ql := HX.out.1; simp [pMs, pMap, pSeq, pMem, pSgs, MsT.m, q0, ql], rfl⟩⟩
 have N2 := hid (M1.out.call hk hr)
 have C2 := hid (D1.out.kept hk (by omega))
 have HP2 := hid hp
 clear hk hr hp y0
 have y0 := N2.out.box.cell 0 _ rfl
 go_wp2_with (refine wl_store1 rfl 3 _ _ rfl (w.heap.size + 2) 1 rfl (.int .i64 ep) rfl rfl rfl [.int .i64 k, .int .i64 0, .int .i64 0, .int .i64 0, .int .i64 0, .int .i64 0, .int .i64 0, .string ⟨#[]⟩, .float .f64 0, .int .i64 0, .int .i64 0, .float .f64 0, .string ⟨#[]⟩, .slice none 0 0, .slice none 0 0, .slice none 0 0, .slice none 0 0] 48 C2.out (by simp) (by kernel_rfl) ?_; intro u2 Hz; have M2 : Hid (PrAt b w u2 s2 [.int .i64 0, .int .i64 0, .int .i64 0, .int .i64 0, .int .i64 0, .int .i64 0, .int .i64 0, .string ⟨#[]⟩, .float .f64 0, .int .i64 0, .int .i64 0, .float .f64 0, .string ⟨#[]⟩, .slice none 0 0, .slice none 0 0, .slice none 0 0, .slice none 0 0] 48) := hid (N2.out.other Hz.out.2 (by omega)); have D2 : Hid (BxAt u2 (w.heap.size + 2) [.int .i64 k, .int .i64 ep, .int .i64 0, .int .i64 0, .int .i64 0, .int .i64 0, .int .i64 0, .string ⟨#[]⟩, .float .f64 0, .int .i64 0, .int .i64 0, .float .f64 0, .string ⟨#[]⟩, .slice none 0 0, .slice none 0 0, .slice none 0 0, .slice none 0 0] 48) := hid Hz.out.1; clear Hz y0; have y0 := M2.out.box.cell 0 _ rfl)
 try go_wp2_with fail
 refine (ipbyte_got b s2 _ M2.out.rd).mono ?_
 rintro e w3 ⟨hk, hor⟩
 rcases hor with ⟨vw, s3, v3, hp, rfl, rfl, hr⟩ | ⟨hp, rfl⟩
 rotate_left
 · have HX := hid (And.intro hp hk)
   clear hp hk
   go_wp2
   exact ⟨rfl, M2.out.kept.trans HX.out.2 (.inl rfl), .inr ⟨by have q0 := HP1.out; have q1 := HP2.out; have ql := HX.out.1; simp [pMs, pMap, pSeq, pMem, pSgs, MsT.m, q0, q1, ql], rfl⟩⟩
 have N3 := hid (M2.out.call hk hr)
 have C3 := hid (D2.out.kept hk (by omega))
 have HP3 := hid hp
 clear hk hr hp y0
 have y0 := N3.out.box.cell 0 _ rfl
 go_wp2_with (refine wl_store1 rfl 3 _ _ rfl (w.heap.size + 2) 2 rfl (.int .i64 vw) rfl rfl rfl [.int .i64 k, .int .i64 ep, .int .i64 0, .int .i64 0, .int .i64 0, .int .i64 0, .int .i64 0, .string ⟨#[]⟩, .float .f64 0, .int .i64 0, .int .i64 0, .float .f64 0, .string ⟨#[]⟩, .slice none 0 0, .slice none 0 0, .slice none 0 0, .slice none 0 0] 48 C3.out (by simp) (by kernel_rfl) ?_; intro u3 Hz; have M3 : Hid (PrAt b w u3 s3 [.int .i64 0, .int .i64 0, .int .i64 0, .int .i64 0, .int .i64 0, .int .i64 0, .int .i64 0, .string ⟨#[]⟩, .float .f64 0, .int .i64 0, .int .i64 0, .float .f64 0, .string ⟨#[]⟩, .slice none 0 0, .slice none 0 0, .slice none 0 0, .slice none 0 0] 48) := hid (N3.out.other Hz.out.2 (by omega)); have D3 : Hid (BxAt u3 (w.heap.size + 2) [.int .i64 k, .int .i64 ep, .int .i64 vw, .int .i64 0, .int .i64 0, .int .i64 0, .int .i64 0, .string ⟨#[]⟩, .float .f64 0, .int .i64 0, .int .i64 0, .float .f64 0, .string ⟨#[]⟩, .slice none 0 0, .slice none 0 0, .slice none 0 0, .slice none 0 0] 48) := hid Hz.out.1; clear Hz y0; have y0 := M3.out.box.cell 0 _ rfl)
 try go_wp2_with fail
 refine (ipword_got b s3 _ M3.out.rd).mono ?_
 rintro e w4 ⟨hk, hor⟩
 rcases hor with ⟨sl, s4, v4, hp, rfl, rfl, hr⟩ | ⟨hp, rfl⟩
 rotate_left
 · have HX := hid (And.intro hp hk)
   clear hp hk
   go_wp2
   exact ⟨rfl, M3.out.kept.trans HX.out.2 (.inl rfl), .inr ⟨by have q0 := HP1.out; have q1 := HP2.out; have q2 := HP3.out; have ql := HX.out.1; simp [pMs, pMap, pSeq, pMem, pSgs, MsT.m, q0, q1, q2, ql], rfl⟩⟩
 have N4 := hid (M3.out.call hk hr)
 have C4 := hid (D3.out.kept hk (by omega))
 have HP4 := hid hp
 clear hk hr hp y0
 have y0 := N4.out.box.cell 0 _ rfl
 go_wp2_with (refine wl_store1 rfl 3 _ _ rfl (w.heap.size + 2) 3 rfl (.int .i64 sl) rfl rfl rfl [.int .i64 k, .int .i64 ep, .int .i64 vw, .int .i64 0, .int .i64 0, .int .i64 0, .int .i64 0, .string ⟨#[]⟩, .float .f64 0, .int .i64 0, .int .i64 0, .float .f64 0, .string ⟨#[]⟩, .slice none 0 0, .slice none 0 0, .slice none 0 0, .slice none 0 0] 48 C4.out (by simp) (by kernel_rfl) ?_; intro u4 Hz; have M4 : Hid (PrAt b w u4 s4 [.int .i64 0, .int .i64 0, .int .i64 0, .int .i64 0, .int .i64 0, .int .i64 0, .int .i64 0, .string ⟨#[]⟩, .float .f64 0, .int .i64 0, .int .i64 0, .float .f64 0, .string ⟨#[]⟩, .slice none 0 0, .slice none 0 0, .slice none 0 0, .slice none 0 0] 48) := hid (N4.out.other Hz.out.2 (by omega)); have D4 : Hid (BxAt u4 (w.heap.size + 2) [.int .i64 k, .int .i64 ep, .int .i64 vw, .int .i64 sl, .int .i64 0, .int .i64 0, .int .i64 0, .string ⟨#[]⟩, .float .f64 0, .int .i64 0, .int .i64 0, .float .f64 0, .string ⟨#[]⟩, .slice none 0 0, .slice none 0 0, .slice none 0 0, .slice none 0 0] 48) := hid Hz.out.1; clear Hz y0; have y0 := M4.out.box.cell 0 _ rfl)
 try go_wp2_with fail
 refine (iprequest_got b s4 _ M4.out.rd).mono ?_
 rintro e w5 ⟨hk, hor⟩
 rcases hor with ⟨r, s5, v5, hp, rfl, rfl, hr⟩ | ⟨hp, rfl⟩
 rotate_left
 · have HX := hid (And.intro hp hk)
   clear hp hk
   go_wp2
   exact ⟨rfl, M4.out.kept.trans HX.out.2 (.inl rfl), .inr ⟨by have q0 := HP1.out; have q1 := HP2.out; have q2 := HP3.out; have q3 := HP4.out; have ql := HX.out.1; simp [pMs, pMap, pSeq, pMem, pSgs, MsT.m, q0, q1, q2, q3, ql], rfl⟩⟩
 have N5 := hid (M4.out.call hk hr)
 have C5 := hid (D4.out.kept hk (by omega))
 have HP5 := hid hp
 clear hk hr hp y0
 have y0 := N5.out.box.cell 0 _ rfl
 go_wp2_with (refine wl_store_blk rfl 41 _ _ rfl (w.heap.size + 2) 4 rfl #[.int .i64 r.c, .int .i64 r.st, .int .i64 r.k, .string r.key, .float .f64 r.b, .int .i64 r.id] rfl [.int .i64 k, .int .i64 ep, .int .i64 vw, .int .i64 sl, .int .i64 0, .int .i64 0, .int .i64 0, .string ⟨#[]⟩, .float .f64 0, .int .i64 0, .int .i64 0, .float .f64 0, .string ⟨#[]⟩, .slice none 0 0, .slice none 0 0, .slice none 0 0, .slice none 0 0] 48 C5.out (by simp) (by kernel_rfl) (by simp [Value.oneCell']) ?_; intro u5 Hz; have M5 : Hid (PrAt b w u5 s5 [.int .i64 0, .int .i64 0, .int .i64 0, .int .i64 0, .int .i64 0, .int .i64 0, .int .i64 0, .string ⟨#[]⟩, .float .f64 0, .int .i64 0, .int .i64 0, .float .f64 0, .string ⟨#[]⟩, .slice none 0 0, .slice none 0 0, .slice none 0 0, .slice none 0 0] 48) := hid (N5.out.other Hz.out.2 (by omega)); have D5 : Hid (BxAt u5 (w.heap.size + 2) [.int .i64 k, .int .i64 ep, .int .i64 vw, .int .i64 sl, .int .i64 r.c, .int .i64 r.st, .int .i64 r.k, .string r.key, .float .f64 r.b, .int .i64 r.id, .int .i64 0, .float .f64 0, .string ⟨#[]⟩, .slice none 0 0, .slice none 0 0, .slice none 0 0, .slice none 0 0] 48) := hid Hz.out.1; clear Hz y0; have y0 := M5.out.box.cell 0 _ rfl)
 try go_wp2_with fail
 refine (ipresult_got b s5 _ M5.out.rd).mono ?_
 rintro e w6 ⟨hk, hor⟩
 rcases hor with ⟨rs, s6, v6, hp, rfl, rfl, hr⟩ | ⟨hp, rfl⟩
 rotate_left
 · have HX := hid (And.intro hp hk)
   clear hp hk
   go_wp2
   exact ⟨rfl, M5.out.kept.trans HX.out.2 (.inl rfl), .inr ⟨by have q0 := HP1.out; have q1 := HP2.out; have q2 := HP3.out; have q3 := HP4.out; have q4 := HP5.out; have ql := HX.out.1; simp [pMs, pMap, pSeq, pMem, pSgs, MsT.m, q0, q1, q2, q3, q4, ql], rfl⟩⟩
 have N6 := hid (M5.out.call hk hr)
 have C6 := hid (D5.out.kept hk (by omega))
 have HP6 := hid hp
 clear hk hr hp y0
 have y0 := N6.out.box.cell 0 _ rfl
 go_wp2_with (refine wl_store_blk rfl 43 _ _ rfl (w.heap.size + 2) 10 rfl #[.int .i64 rs.1, .float .f64 rs.2] rfl [.int .i64 k, .int .i64 ep, .int .i64 vw, .int .i64 sl, .int .i64 r.c, .int .i64 r.st, .int .i64 r.k, .string r.key, .float .f64 r.b, .int .i64 r.id, .int .i64 0, .float .f64 0, .string ⟨#[]⟩, .slice none 0 0, .slice none 0 0, .slice none 0 0, .slice none 0 0] 48 C6.out (by simp) (by kernel_rfl) (by simp [Value.oneCell']) ?_; intro u6 Hz; have M6 : Hid (PrAt b w u6 s6 [.int .i64 0, .int .i64 0, .int .i64 0, .int .i64 0, .int .i64 0, .int .i64 0, .int .i64 0, .string ⟨#[]⟩, .float .f64 0, .int .i64 0, .int .i64 0, .float .f64 0, .string ⟨#[]⟩, .slice none 0 0, .slice none 0 0, .slice none 0 0, .slice none 0 0] 48) := hid (N6.out.other Hz.out.2 (by omega)); have D6 : Hid (BxAt u6 (w.heap.size + 2) [.int .i64 k, .int .i64 ep, .int .i64 vw, .int .i64 sl, .int .i64 r.c, .int .i64 r.st, .int .i64 r.k, .string r.key, .float .f64 r.b, .int .i64 r.id, .int .i64 rs.1, .float .f64 rs.2, .string ⟨#[]⟩, .slice none 0 0, .slice none 0 0, .slice none 0 0, .slice none 0 0] 48) := hid Hz.out.1; clear Hz y0; have y0 := M6.out.box.cell 0 _ rfl)
 try go_wp2_with fail
 refine (iptext_got b s6 _ M6.out.rd).mono ?_
 rintro e w7 ⟨hk, hor⟩
 rcases hor with ⟨tx, s7, v7, hp, rfl, rfl, hr⟩ | ⟨hp, rfl⟩
 rotate_left
 · have HX := hid (And.intro hp hk)
   clear hp hk
   go_wp2
   exact ⟨rfl, M6.out.kept.trans HX.out.2 (.inl rfl), .inr ⟨by have q0 := HP1.out; have q1 := HP2.out; have q2 := HP3.out; have q3 := HP4.out; have q4 := HP5.out; have q5 := HP6.out; have ql := HX.out.1; simp [pMs, pMap, pSeq, pMem, pSgs, MsT.m, q0, q1, q2, q3, q4, q5, ql], rfl⟩⟩
 have N7 := hid (M6.out.call hk hr)
 have C7 := hid (D6.out.kept hk (by omega))
 have HP7 := hid hp
 clear hk hr hp y0
 have y0 := N7.out.box.cell 0 _ rfl
 go_wp2_with (refine wl_store1 rfl 9 _ _ rfl (w.heap.size + 2) 12 rfl (.string tx) rfl rfl rfl [.int .i64 k, .int .i64 ep, .int .i64 vw, .int .i64 sl, .int .i64 r.c, .int .i64 r.st, .int .i64 r.k, .string r.key, .float .f64 r.b, .int .i64 r.id, .int .i64 rs.1, .float .f64 rs.2, .string ⟨#[]⟩, .slice none 0 0, .slice none 0 0, .slice none 0 0, .slice none 0 0] 48 C7.out (by simp) (by kernel_rfl) ?_; intro u7 Hz; have M7 : Hid (PrAt b w u7 s7 [.int .i64 0, .int .i64 0, .int .i64 0, .int .i64 0, .int .i64 0, .int .i64 0, .int .i64 0, .string ⟨#[]⟩, .float .f64 0, .int .i64 0, .int .i64 0, .float .f64 0, .string ⟨#[]⟩, .slice none 0 0, .slice none 0 0, .slice none 0 0, .slice none 0 0] 48) := hid (N7.out.other Hz.out.2 (by omega)); have D7 : Hid (BxAt u7 (w.heap.size + 2) [.int .i64 k, .int .i64 ep, .int .i64 vw, .int .i64 sl, .int .i64 r.c, .int .i64 r.st, .int .i64 r.k, .string r.key, .float .f64 r.b, .int .i64 r.id, .int .i64 rs.1, .float .f64 rs.2, .string tx, .slice none 0 0, .slice none 0 0, .slice none 0 0, .slice none 0 0] 48) := hid Hz.out.1; clear Hz y0; have y0 := M7.out.box.cell 0 _ rfl)
 try go_wp2_with fail
 refine (ipmembers_got b s7 _ M7.out.rd).mono ?_
 rintro e w8 ⟨hk, hor⟩
 rcases hor with ⟨nx, s8, v8, hp, rfl, hl8, hr⟩ | ⟨hp, rfl⟩
 rotate_left
 · have HX := hid (And.intro hp hk)
   clear hp hk
   go_wp2
   exact ⟨rfl, M7.out.kept.trans HX.out.2 (.inl rfl), .inr ⟨by have q0 := HP1.out; have q1 := HP2.out; have q2 := HP3.out; have q3 := HP4.out; have q4 := HP5.out; have q5 := HP6.out; have q6 := HP7.out; have ql := HX.out.1; simp [pMs, pMap, pSeq, pMem, pSgs, MsT.m, q0, q1, q2, q3, q4, q5, q6, ql], rfl⟩⟩
 obtain ⟨ad8, cp8, hv8⟩ := Reads.form hl8
 rw [List.length_map] at hv8
 subst hv8
 have RL8 : Hid (Reads (fun k => w.heap.size + 3 ≤ k) w8 _ (dInts nx)) := hid (hl8.mono (fun k _ hkk => by have := lt_of_blk D7.out; omega))
 clear hl8
 have N8 := hid (M7.out.call hk hr)
 have C8 := hid (D7.out.kept hk (by omega))
 have HP8 := hid hp
 clear hk hr hp y0
 have y0 := N8.out.box.cell 0 _ rfl
 go_wp2_with (refine wl_store1 rfl 22 _ _ rfl (w.heap.size + 2) 13 rfl (.slice ad8 nx.length cp8) rfl rfl rfl [.int .i64 k, .int .i64 ep, .int .i64 vw, .int .i64 sl, .int .i64 r.c, .int .i64 r.st, .int .i64 r.k, .string r.key, .float .f64 r.b, .int .i64 r.id, .int .i64 rs.1, .float .f64 rs.2, .string tx, .slice none 0 0, .slice none 0 0, .slice none 0 0, .slice none 0 0] 48 C8.out (by simp) (by kernel_rfl) ?_; intro u8 Hz; have M8 : Hid (PrAt b w u8 s8 [.int .i64 0, .int .i64 0, .int .i64 0, .int .i64 0, .int .i64 0, .int .i64 0, .int .i64 0, .string ⟨#[]⟩, .float .f64 0, .int .i64 0, .int .i64 0, .float .f64 0, .string ⟨#[]⟩, .slice none 0 0, .slice none 0 0, .slice none 0 0, .slice none 0 0] 48) := hid (N8.out.other Hz.out.2 (by omega)); have D8 : Hid (BxAt u8 (w.heap.size + 2) [.int .i64 k, .int .i64 ep, .int .i64 vw, .int .i64 sl, .int .i64 r.c, .int .i64 r.st, .int .i64 r.k, .string r.key, .float .f64 r.b, .int .i64 r.id, .int .i64 rs.1, .float .f64 rs.2, .string tx, .slice ad8 nx.length cp8, .slice none 0 0, .slice none 0 0, .slice none 0 0] 48) := hid Hz.out.1; have RL8 := hid (RL8.out.one Hz.out.2 (by omega)); clear Hz y0; have y0 := M8.out.box.cell 0 _ rfl)
 try go_wp2_with fail
 refine (ipsigs_got b s8 _ M8.out.rd).mono ?_
 rintro e w9 ⟨hk, hor⟩
 rcases hor with ⟨sg, s9, v9, hp, rfl, hl9, hr⟩ | ⟨hp, rfl⟩
 rotate_left
 · have HX := hid (And.intro hp hk)
   clear hp hk
   go_wp2
   exact ⟨rfl, M8.out.kept.trans HX.out.2 (.inl rfl), .inr ⟨by have q0 := HP1.out; have q1 := HP2.out; have q2 := HP3.out; have q3 := HP4.out; have q4 := HP5.out; have q5 := HP6.out; have q6 := HP7.out; have q7 := HP8.out; have ql := HX.out.1; simp [pMs, pMap, pSeq, pMem, pSgs, MsT.m, q0, q1, q2, q3, q4, q5, q6, q7, ql], rfl⟩⟩
 obtain ⟨ad9, cp9, hv9⟩ := Reads.form hl9
 rw [List.length_map] at hv9
 subst hv9
 have RL9 : Hid (Reads (fun k => w.heap.size + 3 ≤ k) w9 _ (dPairs sg)) := hid (hl9.mono (fun k _ hkk => by have := lt_of_blk D8.out; omega))
 clear hl9
 have N9 := hid (M8.out.call hk hr)
 have C9 := hid (D8.out.kept hk (by omega))
 have HP9 := hid hp
 have RL8 := hid (RL8.out.kept hk (by omega))
 clear hk hr hp y0
 have y0 := N9.out.box.cell 0 _ rfl
 go_wp2_with (refine wl_store1 rfl 44 _ _ rfl (w.heap.size + 2) 14 rfl (.slice ad9 sg.length cp9) rfl rfl rfl [.int .i64 k, .int .i64 ep, .int .i64 vw, .int .i64 sl, .int .i64 r.c, .int .i64 r.st, .int .i64 r.k, .string r.key, .float .f64 r.b, .int .i64 r.id, .int .i64 rs.1, .float .f64 rs.2, .string tx, .slice ad8 nx.length cp8, .slice none 0 0, .slice none 0 0, .slice none 0 0] 48 C9.out (by simp) (by kernel_rfl) ?_; intro u9 Hz; have M9 : Hid (PrAt b w u9 s9 [.int .i64 0, .int .i64 0, .int .i64 0, .int .i64 0, .int .i64 0, .int .i64 0, .int .i64 0, .string ⟨#[]⟩, .float .f64 0, .int .i64 0, .int .i64 0, .float .f64 0, .string ⟨#[]⟩, .slice none 0 0, .slice none 0 0, .slice none 0 0, .slice none 0 0] 48) := hid (N9.out.other Hz.out.2 (by omega)); have D9 : Hid (BxAt u9 (w.heap.size + 2) [.int .i64 k, .int .i64 ep, .int .i64 vw, .int .i64 sl, .int .i64 r.c, .int .i64 r.st, .int .i64 r.k, .string r.key, .float .f64 r.b, .int .i64 r.id, .int .i64 rs.1, .float .f64 rs.2, .string tx, .slice ad8 nx.length cp8, .slice ad9 sg.length cp9, .slice none 0 0, .slice none 0 0] 48) := hid Hz.out.1; have RL8 := hid (RL8.out.one Hz.out.2 (by omega)); have RL9 := hid (RL9.out.one Hz.out.2 (by omega)); clear Hz y0; have y0 := M9.out.box.cell 0 _ rfl)
 try go_wp2_with fail
 refine (ipchanges_got b s9 _ M9.out.rd).mono ?_
 rintro e w10 ⟨hk, hor⟩
 rcases hor with ⟨cg, s10, v10, hp, rfl, hl10, hr⟩ | ⟨hp, rfl⟩
 rotate_left
 · have HX := hid (And.intro hp hk)
   clear hp hk
   go_wp2
   exact ⟨rfl, M9.out.kept.trans HX.out.2 (.inl rfl), .inr ⟨by have q0 := HP1.out; have q1 := HP2.out; have q2 := HP3.out; have q3 := HP4.out; have q4 := HP5.out; have q5 := HP6.out; have q6 := HP7.out; have q7 := HP8.out; have q8 := HP9.out; have ql := HX.out.1; simp [pMs, pMap, pSeq, pMem, pSgs, MsT.m, q0, q1, q2, q3, q4, q5, q6, q7, q8, ql], rfl⟩⟩
 obtain ⟨ad10, cp10, hv10⟩ := Reads.form hl10
 rw [List.length_map] at hv10
 subst hv10
 have RL10 : Hid (Reads (fun k => w.heap.size + 3 ≤ k) w10 _ (dCgs cg)) := hid (hl10.mono (fun k _ hkk => by have := lt_of_blk D9.out; omega))
 clear hl10
 have N10 := hid (M9.out.call hk hr)
 have C10 := hid (D9.out.kept hk (by omega))
 have HP10 := hid hp
 have RL8 := hid (RL8.out.kept hk (by omega))
 have RL9 := hid (RL9.out.kept hk (by omega))
 clear hk hr hp y0
 have y0 := N10.out.box.cell 0 _ rfl
 go_wp2_with (refine wl_store1 rfl 45 _ _ rfl (w.heap.size + 2) 15 rfl (.slice ad10 cg.length cp10) rfl rfl rfl [.int .i64 k, .int .i64 ep, .int .i64 vw, .int .i64 sl, .int .i64 r.c, .int .i64 r.st, .int .i64 r.k, .string r.key, .float .f64 r.b, .int .i64 r.id, .int .i64 rs.1, .float .f64 rs.2, .string tx, .slice ad8 nx.length cp8, .slice ad9 sg.length cp9, .slice none 0 0, .slice none 0 0] 48 C10.out (by simp) (by kernel_rfl) ?_; intro u10 Hz; have M10 : Hid (PrAt b w u10 s10 [.int .i64 0, .int .i64 0, .int .i64 0, .int .i64 0, .int .i64 0, .int .i64 0, .int .i64 0, .string ⟨#[]⟩, .float .f64 0, .int .i64 0, .int .i64 0, .float .f64 0, .string ⟨#[]⟩, .slice none 0 0, .slice none 0 0, .slice none 0 0, .slice none 0 0] 48) := hid (N10.out.other Hz.out.2 (by omega)); have D10 : Hid (BxAt u10 (w.heap.size + 2) [.int .i64 k, .int .i64 ep, .int .i64 vw, .int .i64 sl, .int .i64 r.c, .int .i64 r.st, .int .i64 r.k, .string r.key, .float .f64 r.b, .int .i64 r.id, .int .i64 rs.1, .float .f64 rs.2, .string tx, .slice ad8 nx.length cp8, .slice ad9 sg.length cp9, .slice ad10 cg.length cp10, .slice none 0 0] 48) := hid Hz.out.1; have RL8 := hid (RL8.out.one Hz.out.2 (by omega)); have RL9 := hid (RL9.out.one Hz.out.2 (by omega)); have RL10 := hid (RL10.out.one Hz.out.2 (by omega)); clear Hz y0; have y0 := M10.out.box.cell 0 _ rfl)
 try go_wp2_with fail
 refine (iplinks_got b s10 _ M10.out.rd).mono ?_
 rintro e w11 ⟨hk, hor⟩
 rcases hor with ⟨ln, s11, v11, hp, rfl, ⟨hl11, hrm⟩, hr⟩ | ⟨hp, rfl⟩
 rotate_left
 · have HX := hid (And.intro hp hk)
   clear hp hk
   go_wp2
   exact ⟨rfl, M10.out.kept.trans HX.out.2 (.inl rfl), .inr ⟨by have q0 := HP1.out; have q1 := HP2.out; have q2 := HP3.out; have q3 := HP4.out; have q4 := HP5.out; have q5 := HP6.out; have q6 := HP7.out; have q7 := HP8.out; have q8 := HP9.out; have q9 := HP10.out; have ql := HX.out.1; simp [pMs, pMap, pSeq, pMem, pSgs, MsT.m, q0, q1, q2, q3, q4, q5, q6, q7, q8, q9, ql], rfl⟩⟩
 obtain ⟨ad11, cp11, hv11⟩ := Reads.form hl11
 rw [List.length_map] at hv11
 subst hv11
 have HRm := hid (hrm _ _ _ rfl)
 clear hrm
 have RL11 : Hid (Reads (fun k => w.heap.size + 3 ≤ k) w11 _ (dLns ln)) := hid (hl11.mono (fun k _ hkk => by have := lt_of_blk D10.out; omega))
 clear hl11
 have N11 := hid (M10.out.call hk hr)
 have C11 := hid (D10.out.kept hk (by omega))
 have HP11 := hid hp
 have RL8 := hid (RL8.out.kept hk (by omega))
 have RL9 := hid (RL9.out.kept hk (by omega))
 have RL10 := hid (RL10.out.kept hk (by omega))
 clear hk hr hp y0
 have y0 := N11.out.box.cell 0 _ rfl
 go_wp2_with (first
   | (have := D11; refine wl_store_blk rfl 48 _ _ rfl (w.heap.size + 1) 0 rfl #[.int .i64 k, .int .i64 ep, .int .i64 vw, .int .i64 sl, .int .i64 r.c, .int .i64 r.st, .int .i64 r.k, .string r.key, .float .f64 r.b, .int .i64 r.id, .int .i64 rs.1, .float .f64 rs.2, .string tx, .slice ad8 nx.length cp8, .slice ad9 sg.length cp9, .slice ad10 cg.length cp10, .slice ad11 ln.length cp11] rfl [.int .i64 0, .int .i64 0, .int .i64 0, .int .i64 0, .int .i64 0, .int .i64 0, .int .i64 0, .string ⟨#[]⟩, .float .f64 0, .int .i64 0, .int .i64 0, .float .f64 0, .string ⟨#[]⟩, .slice none 0 0, .slice none 0 0, .slice none 0 0, .slice none 0 0] 48 M11.out.res (by simp) (by kernel_rfl) (by simp [Value.oneCell']) ?_; intro ue Hz; have ME : Hid (PrAt b w ue s11 [.int .i64 k, .int .i64 ep, .int .i64 vw, .int .i64 sl, .int .i64 r.c, .int .i64 r.st, .int .i64 r.k, .string r.key, .float .f64 r.b, .int .i64 r.id, .int .i64 rs.1, .float .f64 rs.2, .string tx, .slice ad8 nx.length cp8, .slice ad9 sg.length cp9, .slice ad10 cg.length cp10, .slice ad11 ln.length cp11] 48) := hid (M11.out.ans Hz.out.2 Hz.out.1); have RL8 := hid (RL8.out.one Hz.out.2 (by omega)); have RL9 := hid (RL9.out.one Hz.out.2 (by omega)); have RL10 := hid (RL10.out.one Hz.out.2 (by omega)); have RL11 := hid (RL11.out.one Hz.out.2 (by omega)); clear Hz)
   | (refine wl_store1 rfl 46 _ _ rfl (w.heap.size + 2) 16 rfl (.slice ad11 ln.length cp11) rfl rfl rfl [.int .i64 k, .int .i64 ep, .int .i64 vw, .int .i64 sl, .int .i64 r.c, .int .i64 r.st, .int .i64 r.k, .string r.key, .float .f64 r.b, .int .i64 r.id, .int .i64 rs.1, .float .f64 rs.2, .string tx, .slice ad8 nx.length cp8, .slice ad9 sg.length cp9, .slice ad10 cg.length cp10, .slice none 0 0] 48 C11.out (by simp) (by kernel_rfl) ?_; intro u11 Hz; have M11 : Hid (PrAt b w u11 s11 [.int .i64 0, .int .i64 0, .int .i64 0, .int .i64 0, .int .i64 0, .int .i64 0, .int .i64 0, .string ⟨#[]⟩, .float .f64 0, .int .i64 0, .int .i64 0, .float .f64 0, .string ⟨#[]⟩, .slice none 0 0, .slice none 0 0, .slice none 0 0, .slice none 0 0] 48) := hid (N11.out.other Hz.out.2 (by omega)); have D11 : Hid (BxAt u11 (w.heap.size + 2) [.int .i64 k, .int .i64 ep, .int .i64 vw, .int .i64 sl, .int .i64 r.c, .int .i64 r.st, .int .i64 r.k, .string r.key, .float .f64 r.b, .int .i64 r.id, .int .i64 rs.1, .float .f64 rs.2, .string tx, .slice ad8 nx.length cp8, .slice ad9 sg.length cp9, .slice ad10 cg.length cp10, .slice ad11 ln.length cp11] 48) := hid Hz.out.1; have RL8 := hid (RL8.out.one Hz.out.2 (by omega)); have RL9 := hid (RL9.out.one Hz.out.2 (by omega)); have RL10 := hid (RL10.out.one Hz.out.2 (by omega)); have RL11 := hid (RL11.out.one Hz.out.2 (by omega)); clear Hz y0; have y0 := M11.out.box.cell 0 _ rfl; have z0 := D11.out.cell 0 _ rfl; have z1 := D11.out.cell 1 _ rfl; have z2 := D11.out.cell 2 _ rfl; have z3 := D11.out.cell 3 _ rfl; have z4 := D11.out.cell 4 _ rfl; have z5 := D11.out.cell 5 _ rfl; have z6 := D11.out.cell 6 _ rfl; have z7 := D11.out.cell 7 _ rfl; have z8 := D11.out.cell 8 _ rfl; have z9 := D11.out.cell 9 _ rfl; have z10 := D11.out.cell 10 _ rfl; have z11 := D11.out.cell 11 _ rfl; have z12 := D11.out.cell 12 _ rfl; have z13 := D11.out.cell 13 _ rfl; have z14 := D11.out.cell 14 _ rfl; have z15 := D11.out.cell 15 _ rfl; have z16 := D11.out.cell 16 _ rfl))
 have x0 := ME.out.res.cell 0 _ rfl
 have x1 := ME.out.res.cell 1 _ rfl
 have x2 := ME.out.res.cell 2 _ rfl
 have x3 := ME.out.res.cell 3 _ rfl
 have x4 := ME.out.res.cell 4 _ rfl
 have x5 := ME.out.res.cell 5 _ rfl
 have x6 := ME.out.res.cell 6 _ rfl
 have x7 := ME.out.res.cell 7 _ rfl
 have x8 := ME.out.res.cell 8 _ rfl
 have x9 := ME.out.res.cell 9 _ rfl
 have x10 := ME.out.res.cell 10 _ rfl
 have x11 := ME.out.res.cell 11 _ rfl
 have x12 := ME.out.res.cell 12 _ rfl
 have x13 := ME.out.res.cell 13 _ rfl
 have x14 := ME.out.res.cell 14 _ rfl
 have x15 := ME.out.res.cell 15 _ rfl
 have x16 := ME.out.res.cell 16 _ rfl
 refine bodyPost_ret (v := .agg #[.int .i64 k, .int .i64 ep, .int .i64 vw, .int .i64 sl, .int .i64 r.c, .int .i64 r.st, .int .i64 r.k, .string r.key, .float .f64 r.b, .int .i64 r.id, .int .i64 rs.1, .float .f64 rs.2, .string tx, .slice ad8 nx.length cp8, .slice ad9 sg.length cp9, .slice ad10 cg.length cp10, .slice ad11 ln.length cp11]) (by simp [results, Tryz.results177, go_sem, x0, x1, x2, x3, x4, x5, x6, x7, x8, x9, x10, x11, x12, x13, x14, x15, x16]) rfl ?_
 exact ⟨ME.out.kept, .inl ⟨⟨k, ep, vw, sl, r, rs, tx, nx, sg, cg, ln⟩, s11, _, by have q0 := HP1.out; have q1 := HP2.out; have q2 := HP3.out; have q3 := HP4.out; have q4 := HP5.out; have q5 := HP6.out; have q6 := HP7.out; have q7 := HP8.out; have q8 := HP9.out; have q9 := HP10.out; have q10 := HP11.out; simp [pMs, pMap, pSeq, pMem, pSgs, MsT.m, q0, q1, q2, q3, q4, q5, q6, q7, q8, q9, q10], rfl, ⟨ad8, cp8, ad9, cp9, ad10, cp10, ad11, cp11, rfl, ⟨RL8.out.mono (fun k _ hk => by show w.heap.size ≤ k; have : w.heap.size + 3 ≤ k := hk; omega), RL9.out.mono (fun k _ hk => by show w.heap.size ≤ k; have : w.heap.size + 3 ≤ k := hk; omega), RL10.out.mono (fun k _ hk => by show w.heap.size ≤ k; have : w.heap.size + 3 ≤ k := hk; omega), RL11.out.mono (fun k _ hk => by show w.heap.size ≤ k; have : w.heap.size + 3 ≤ k := hk; omega)⟩, HRm.out⟩, ME.out.rd⟩⟩
end Go.Proofs.YtoepppkadpjonaaGreat
