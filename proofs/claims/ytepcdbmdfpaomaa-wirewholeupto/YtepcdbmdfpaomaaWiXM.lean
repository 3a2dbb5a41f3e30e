/- The program's parts of a message: certificates. -/
import Derived.Test.YtepcdbmdfpaomaaWiWM
namespace Go.Proofs.Ytepcdbmdfpaomaa
open Go.RowKit

def vCt (c : Ct) (v : Value) (w w' : World) : Prop := ∃ v8, v = .agg #[.int .i64 c.1, .int .i64 c.2.1, .int .i64 c.2.2.1.c, .int .i64 c.2.2.1.st, .int .i64 c.2.2.1.k, .string c.2.2.1.key, .float .f64 c.2.2.1.b, .int .i64 c.2.2.1.id, v8] ∧ Reads (fun k => w.heap.size ≤ k) w' v8 (dPairs c.2.2.2)
set_option maxRecDepth 100000 in
set_option maxHeartbeats 6400000 in
theorem ipcert_got (b : Nat) (s : ByteArray) (w : World) (h : RdAt w b s false) : Calls Try.prog 104 #[.agg #[.pointer (some ⟨b, 0, none⟩)]] w (Got pCt b s vCt w) := by
  have M0 := hid ((pr_begin h [.int .i64 0, .int .i64 0, .int .i64 0, .int .i64 0, .int .i64 0, .string ⟨#[]⟩, .float .f64 0, .int .i64 0, .slice none 0 0] 72).under ((Below.refl _ _).alloc (Nat.le_refl _) (.cells #[.int .i64 0, .int .i64 0, .int .i64 0, .int .i64 0, .int .i64 0, .string ⟨#[]⟩, .float .f64 0, .int .i64 0, .slice none 0 0] 72)))
  have D0 : Hid (BxAt (((w.alloc (.cells #[.pointer (some ⟨b, 0, none⟩)] 97)).alloc (.cells #[.int .i64 0, .int .i64 0, .int .i64 0, .int .i64 0, .int .i64 0, .string ⟨#[]⟩, .float .f64 0, .int .i64 0, .slice none 0 0] 72)).alloc (.cells #[.int .i64 0, .int .i64 0, .int .i64 0, .int .i64 0, .int .i64 0, .string ⟨#[]⟩, .float .f64 0, .int .i64 0, .slice none 0 0] 72)) (w.heap.size + 2) [.int .i64 0, .int .i64 0, .int .i64 0, .int .i64 0, .int .i64 0, .string ⟨#[]⟩, .float .f64 0, .int .i64 0, .slice none 0 0] 72) := hid (by
    have := heap_alloc_last ((w.alloc (.cells #[.pointer (some ⟨b, 0, none⟩)] 97)).alloc (.cells #[.int .i64 0, .int .i64 0, .int .i64 0, .int .i64 0, .int .i64 0, .string ⟨#[]⟩, .float .f64 0, .int .i64 0, .slice none 0 0] 72)) (.cells #[.int .i64 0, .int .i64 0, .int .i64 0, .int .i64 0, .int .i64 0, .string ⟨#[]⟩, .float .f64 0, .int .i64 0, .slice none 0 0] 72)
    rw [show ((w.alloc (.cells #[.pointer (some ⟨b, 0, none⟩)] 97)).alloc (.cells #[.int .i64 0, .int .i64 0, .int .i64 0, .int .i64 0, .int .i64 0, .string ⟨#[]⟩, .float .f64 0, .int .i64 0, .slice none 0 0] 72)).heap.size = w.heap.size + 2 by simp] at this
    exact this)
  have y0 := M0.out.box.cell 0 _ rfl
  have hlt := h.lt
  clear h
  go_enter Try.func104, Try.ntmps104
  try simp only [List.append]
  try go_wp2_with fail
  refine (ipbyte_got b s _ M0.out.rd).mono ?_
  rintro e w1 ⟨hk, hor⟩
  rcases hor with ⟨x, s1, v1, hp, rfl, rfl, hr⟩ | ⟨hp, rfl⟩
  rotate_left
  · have HX := hid (And.intro hp hk)
    clear hp hk
    go_wp2
    exact ⟨rfl, M0.out.kept.trans HX.out.2 (.inl rfl), .inr ⟨by have ql := HX.out.1; simp [pCt, pSeq, pSgs, ql], rfl⟩⟩
  have N1 := hid (M0.out.call hk hr)
  have C1 := hid (D0.out.kept hk (by omega))
  have HP1 := hid hp
  clear hk hr hp y0
  have y0 := N1.out.box.cell 0 _ rfl
  go_wp2_with (refine wl_store1 rfl 3 _ _ rfl (w.heap.size + 2) 0 rfl (.int .i64 x) rfl rfl rfl [.int .i64 0, .int .i64 0, .int .i64 0, .int .i64 0, .int .i64 0, .string ⟨#[]⟩, .float .f64 0, .int .i64 0, .slice none 0 0] 72 C1.out (by simp) (by kernel_rfl) ?_; intro u1 Hz; have M1 : Hid (PrAt b w u1 s1 [.int .i64 0, .int .i64 0, .int .i64 0, .int .i64 0, .int .i64 0, .string ⟨#[]⟩, .float .f64 0, .int .i64 0, .slice none 0 0] 72) := hid (N1.out.other Hz.out.2 (by omega)); have D1 : Hid (BxAt u1 (w.heap.size + 2) [.int .i64 x, .int .i64 0, .int .i64 0, .int .i64 0, .int .i64 0, .string ⟨#[]⟩, .float .f64 0, .int .i64 0, .slice none 0 0] 72) := hid Hz.out.1; clear Hz y0; have y0 := M1.out.box.cell 0 _ rfl)
  try go_wp2_with fail
  refine (ipword_got b s1 _ M1.out.rd).mono ?_
  rintro e w2 ⟨hk, hor⟩
  rcases hor with ⟨y, s2, v2, hp, rfl, rfl, hr⟩ | ⟨hp, rfl⟩
  rotate_left
  · have HX := hid (And.intro hp hk)
    clear hp hk
    go_wp2
    exact ⟨rfl, M1.out.kept.trans HX.out.2 (.inl rfl), .inr ⟨by have q0 := HP1.out; have ql := HX.out.1; simp [pCt, pSeq, pSgs, q0, ql], rfl⟩⟩
  have N2 := hid (M1.out.call hk hr)
  have C2 := hid (D1.out.kept hk (by omega))
  have HP2 := hid hp
  clear hk hr hp y0
  have y0 := N2.out.box.cell 0 _ rfl
  go_wp2_with (refine wl_store1 rfl 3 _ _ rfl (w.heap.size + 2) 1 rfl (.int .i64 y) rfl rfl rfl [.int .i64 x, .int .i64 0, .int .i64 0, .int .i64 0, .int .i64 0, .string ⟨#[]⟩, .float .f64 0, .int .i64 0, .slice none 0 0] 72 C2.out (by simp) (by kernel_rfl) ?_; intro u2 Hz; have M2 : Hid (PrAt b w u2 s2 [.int .i64 0, .int .i64 0, .int .i64 0, .int .i64 0, .int .i64 0, .string ⟨#[]⟩, .float .f64 0, .int .i64 0, .slice none 0 0] 72) := hid (N2.out.other Hz.out.2 (by omega)); have D2 : Hid (BxAt u2 (w.heap.size + 2) [.int .i64 x, .int .i64 y, .int .i64 0, .int .i64 0, .int .i64 0, .string ⟨#[]⟩, .float .f64 0, .int .i64 0, .slice none 0 0] 72) := hid Hz.out.1; clear Hz y0; have y0 := M2.out.box.cell 0 _ rfl)
  try go_wp2_with fail
  refine (iprequest_got b s2 _ M2.out.rd).mono ?_
  rintro e w3 ⟨hk, hor⟩
  rcases hor with ⟨r, s3, v3, hp, rfl, rfl, hr⟩ | ⟨hp, rfl⟩
  rotate_left
  · have HX := hid (And.intro hp hk)
    clear hp hk
    go_wp2
    exact ⟨rfl, M2.out.kept.trans HX.out.2 (.inl rfl), .inr ⟨by have q0 := HP1.out; have q1 := HP2.out; have ql := HX.out.1; simp [pCt, pSeq, pSgs, q0, q1, ql], rfl⟩⟩
  have N3 := hid (M2.out.call hk hr)
  have C3 := hid (D2.out.kept hk (by omega))
  have HP3 := hid hp
  clear hk hr hp y0
  have y0 := N3.out.box.cell 0 _ rfl
  go_wp2_with (refine wl_store_blk rfl 26 _ _ rfl (w.heap.size + 2) 2 rfl #[.int .i64 r.c, .int .i64 r.st, .int .i64 r.k, .string r.key, .float .f64 r.b, .int .i64 r.id] rfl [.int .i64 x, .int .i64 y, .int .i64 0, .int .i64 0, .int .i64 0, .string ⟨#[]⟩, .float .f64 0, .int .i64 0, .slice none 0 0] 72 C3.out (by simp) (by kernel_rfl) (by simp [Value.oneCell']) ?_; intro u3 Hz; have M3 : Hid (PrAt b w u3 s3 [.int .i64 0, .int .i64 0, .int .i64 0, .int .i64 0, .int .i64 0, .string ⟨#[]⟩, .float .f64 0, .int .i64 0, .slice none 0 0] 72) := hid (N3.out.other Hz.out.2 (by omega)); have D3 : Hid (BxAt u3 (w.heap.size + 2) [.int .i64 x, .int .i64 y, .int .i64 r.c, .int .i64 r.st, .int .i64 r.k, .string r.key, .float .f64 r.b, .int .i64 r.id, .slice none 0 0] 72) := hid Hz.out.1; clear Hz y0; have y0 := M3.out.box.cell 0 _ rfl)
  try go_wp2_with fail
  refine (ipsigs_got b s3 _ M3.out.rd).mono ?_
  rintro e w4 ⟨hk, hor⟩
  rcases hor with ⟨g, s4, v4, hp, rfl, hl4, hr⟩ | ⟨hp, rfl⟩
  rotate_left
  · have HX := hid (And.intro hp hk)
    clear hp hk
    go_wp2
    exact ⟨rfl, M3.out.kept.trans HX.out.2 (.inl rfl), .inr ⟨by have q0 := HP1.out; have q1 := HP2.out; have q2 := HP3.out; have ql := HX.out.1; simp [pCt, pSeq, pSgs, q0, q1, q2, ql], rfl⟩⟩
  obtain ⟨ad4, cp4, hv4⟩ := Reads.form hl4
  rw [List.length_map] at hv4
  subst hv4
  have RL4 : Hid (Reads (fun k => w.heap.size + 3 ≤ k) w4 _ (dPairs g)) := hid (hl4.mono (fun k _ hkk => by have := lt_of_blk D3.out; omega))
  clear hl4
  have N4 := hid (M3.out.call hk hr)
  have C4 := hid (D3.out.kept hk (by omega))
  have HP4 := hid hp
  clear hk hr hp y0
  have y0 := N4.out.box.cell 0 _ rfl
  go_wp2_with (first
    | (have := D4; refine wl_store_blk rfl 72 _ _ rfl (w.heap.size + 1) 0 rfl #[.int .i64 x, .int .i64 y, .int .i64 r.c, .int .i64 r.st, .int .i64 r.k, .string r.key, .float .f64 r.b, .int .i64 r.id, .slice ad4 g.length cp4] rfl [.int .i64 0, .int .i64 0, .int .i64 0, .int .i64 0, .int .i64 0, .string ⟨#[]⟩, .float .f64 0, .int .i64 0, .slice none 0 0] 72 M4.out.res (by simp) (by kernel_rfl) (by simp [Value.oneCell']) ?_; intro ue Hz; have ME : Hid (PrAt b w ue s4 [.int .i64 x, .int .i64 y, .int .i64 r.c, .int .i64 r.st, .int .i64 r.k, .string r.key, .float .f64 r.b, .int .i64 r.id, .slice ad4 g.length cp4] 72) := hid (M4.out.ans Hz.out.2 Hz.out.1); have RL4 := hid (RL4.out.one Hz.out.2 (by omega)); clear Hz)
    | (refine wl_store1 rfl 30 _ _ rfl (w.heap.size + 2) 8 rfl (.slice ad4 g.length cp4) rfl rfl rfl [.int .i64 x, .int .i64 y, .int .i64 r.c, .int .i64 r.st, .int .i64 r.k, .string r.key, .float .f64 r.b, .int .i64 r.id, .slice none 0 0] 72 C4.out (by simp) (by kernel_rfl) ?_; intro u4 Hz; have M4 : Hid (PrAt b w u4 s4 [.int .i64 0, .int .i64 0, .int .i64 0, .int .i64 0, .int .i64 0, .string ⟨#[]⟩, .float .f64 0, .int .i64 0, .slice none 0 0] 72) := hid (N4.out.other Hz.out.2 (by omega)); have D4 : Hid (BxAt u4 (w.heap.size + 2) [.int .i64 x, .int .i64 y, .int .i64 r.c, .int .i64 r.st, .int .i64 r.k, .string r.key, .float .f64 r.b, .int .i64 r.id, .slice ad4 g.length cp4] 72) := hid Hz.out.1; have RL4 := hid (RL4.out.one Hz.out.2 (by omega)); clear Hz y0; have y0 := M4.out.box.cell 0 _ rfl; have z0 := D4.out.cell 0 _ rfl; have z1 := D4.out.cell 1 _ rfl; have z2 := D4.out.cell 2 _ rfl; have z3 := D4.out.cell 3 _ rfl; have z4 := D4.out.cell 4 _ rfl; have z5 := D4.out.cell 5 _ rfl; have z6 := D4.out.cell 6 _ rfl; have z7 := D4.out.cell 7 _ rfl; have z8 := D4.out.cell 8 _ rfl))
  have x0 := ME.out.res.cell 0 _ rfl
  have x1 := ME.out.res.cell 1 _ rfl
  have x2 := ME.out.res.cell 2 _ rfl
  have x3 := ME.out.res.cell 3 _ rfl
  have x4 := ME.out.res.cell 4 _ rfl
  have x5 := ME.out.res.cell 5 _ rfl
  have x6 := ME.out.res.cell 6 _ rfl
  have x7 := ME.out.res.cell 7 _ rfl
  have x8 := ME.out.res.cell 8 _ rfl
  refine bodyPost_ret (v := .agg #[.int .i64 x, .int .i64 y, .int .i64 r.c, .int .i64 r.st, .int .i64 r.k, .string r.key, .float .f64 r.b, .int .i64 r.id, .slice ad4 g.length cp4]) (by simp [results, Try.results104, go_sem, x0, x1, x2, x3, x4, x5, x6, x7, x8]) rfl ?_
  exact ⟨ME.out.kept, .inl ⟨(x, y, r, g), s4, _, by have q0 := HP1.out; have q1 := HP2.out; have q2 := HP3.out; have q3 := HP4.out; simp [pCt, pSeq, pSgs, q0, q1, q2, q3], rfl, ⟨_, rfl, RL4.out.mono (fun k _ hk => by omega)⟩, ME.out.rd⟩⟩
end Go.Proofs.Ytepcdbmdfpaomaa
