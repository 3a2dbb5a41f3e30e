/- The program's parts of a message: changes. -/
import Derived.Test.YtepcdbmdfpaomaaWiXM
import Derived.Test.YtepcdbmdfpaomaaGa5
namespace Go.Proofs.Ytepcdbmdfpaomaa
open Go.RowKit

theorem pr_grown {b : Nat} {w0 w w' : World} {s : ByteArray} {Z C : List Value} {TR TC : TypeId} {o : Obj} {r : Option Nat} (h : PrAt b w0 w s Z TR) (hC : BxAt w (w0.heap.size + 2) C TC) (hg : (w.alloc o).grownBy w' r) (hr : ∀ g, r = some g → w0.heap.size + 3 ≤ g) : PrAt b w0 w' s Z TR ∧ BxAt w' (w0.heap.size + 2) C TC := by
  have hlt := h.rd.lt
  have hb : ∀ k, k < w.heap.size → some k ≠ r → w'.heap[k]? = w.heap[k]? := fun k hk hn => (hg.block k (by simp; omega) hn).trans (Below.heap_alloc w o k hk)
  have hne : ∀ k, k < w0.heap.size + 3 → some k ≠ r := fun k hk e => by have := hr k e.symm; omega
  have hl := h.lt
  exact ⟨⟨(hb b hlt (hne b (by omega))).trans h.rd,
    ⟨hg.os.trans h.kept.os, hg.tape.trans h.kept.tape, hg.output.trans h.kept.output, Nat.le_trans h.kept.size (Nat.le_trans (by simp) hg.size), fun k hk h1 h2 => (hb k (Nat.lt_of_lt_of_le hk h.kept.size) (hne k (by omega))).trans (h.kept.block k hk h1 h2)⟩,
    (hb _ (lt_of_blk h.box) (hne _ (by omega))).trans h.box, (hb _ (lt_of_blk h.res) (hne _ (by omega))).trans h.res, h.lt⟩, (hb _ (lt_of_blk hC) (hne _ (by omega))).trans hC⟩
def vCg (c : Cg) (v : Value) (w w' : World) : Prop := ∃ v2, v = .agg #[.int .i64 c.1, .int .i64 c.2.1, v2, .int .i64 c.2.2.2.1, .string c.2.2.2.2] ∧ Reads (fun k => w.heap.size ≤ k) w' v2 (dCts c.2.2.1)
set_option maxRecDepth 100000 in
set_option maxHeartbeats 6400000 in
theorem ipchange_got (b : Nat) (s : ByteArray) (w : World) (h : RdAt w b s false) : Calls Try.prog 93 #[.agg #[.pointer (some ⟨b, 0, none⟩)]] w (Got pCg b s vCg w) := by
  have M0 := hid ((pr_begin h [.int .i64 0, .int .i64 0, .slice none 0 0, .int .i64 0, .string ⟨#[]⟩] 70).under ((Below.refl _ _).alloc (Nat.le_refl _) (.cells #[.int .i64 0, .int .i64 0, .slice none 0 0, .int .i64 0, .string ⟨#[]⟩] 70)))
  have D0 : Hid (BxAt (((w.alloc (.cells #[.pointer (some ⟨b, 0, none⟩)] 97)).alloc (.cells #[.int .i64 0, .int .i64 0, .slice none 0 0, .int .i64 0, .string ⟨#[]⟩] 70)).alloc (.cells #[.int .i64 0, .int .i64 0, .slice none 0 0, .int .i64 0, .string ⟨#[]⟩] 70)) (w.heap.size + 2) [.int .i64 0, .int .i64 0, .slice none 0 0, .int .i64 0, .string ⟨#[]⟩] 70) := hid (by
    have := heap_alloc_last ((w.alloc (.cells #[.pointer (some ⟨b, 0, none⟩)] 97)).alloc (.cells #[.int .i64 0, .int .i64 0, .slice none 0 0, .int .i64 0, .string ⟨#[]⟩] 70)) (.cells #[.int .i64 0, .int .i64 0, .slice none 0 0, .int .i64 0, .string ⟨#[]⟩] 70)
    rw [show ((w.alloc (.cells #[.pointer (some ⟨b, 0, none⟩)] 97)).alloc (.cells #[.int .i64 0, .int .i64 0, .slice none 0 0, .int .i64 0, .string ⟨#[]⟩] 70)).heap.size = w.heap.size + 2 by simp] at this
    exact this)
  have y0 := M0.out.box.cell 0 _ rfl
  have hlt := h.lt
  clear h
  go_enter Try.func93, Try.ntmps93
  try go_wp2_with fail
  refine (ipbyte_got b s _ M0.out.rd).mono ?_
  rintro e w1 ⟨hk, hor⟩
  rcases hor with ⟨x, s1, v1, hp, rfl, rfl, hr⟩ | ⟨hp, rfl⟩
  rotate_left
  · have HX := hid (And.intro hp hk)
    clear hp hk
    go_wp2
    exact ⟨rfl, M0.out.kept.trans HX.out.2 (.inl rfl), .inr ⟨by have ql := HX.out.1; simp [pCg, pSeq, ql], rfl⟩⟩
  have N1 := hid (M0.out.call hk hr)
  have C1 := hid (D0.out.kept hk (by omega))
  have HP1 := hid hp
  clear hk hr hp y0
  have y0 := N1.out.box.cell 0 _ rfl
  go_wp2_with (refine wl_store1 rfl 3 _ _ rfl (w.heap.size + 2) 0 rfl (.int .i64 x) rfl rfl rfl [.int .i64 0, .int .i64 0, .slice none 0 0, .int .i64 0, .string ⟨#[]⟩] 70 C1.out (by simp) (by kernel_rfl) ?_; intro u1 Hz; have M1 : Hid (PrAt b w u1 s1 [.int .i64 0, .int .i64 0, .slice none 0 0, .int .i64 0, .string ⟨#[]⟩] 70) := hid (N1.out.other Hz.out.2 (by omega)); have D1 : Hid (BxAt u1 (w.heap.size + 2) [.int .i64 x, .int .i64 0, .slice none 0 0, .int .i64 0, .string ⟨#[]⟩] 70) := hid Hz.out.1; clear Hz y0; have y0 := M1.out.box.cell 0 _ rfl)
  try go_wp2_with fail
  refine (ipbyte_got b s1 _ M1.out.rd).mono ?_
  rintro e w2 ⟨hk, hor⟩
  rcases hor with ⟨y, s2, v2, hp, rfl, rfl, hr⟩ | ⟨hp, rfl⟩
  rotate_left
  · have HX := hid (And.intro hp hk)
    clear hp hk
    go_wp2
    exact ⟨rfl, M1.out.kept.trans HX.out.2 (.inl rfl), .inr ⟨by have q0 := HP1.out; have ql := HX.out.1; simp [pCg, pSeq, q0, ql], rfl⟩⟩
  have N2 := hid (M1.out.call hk hr)
  have C2 := hid (D1.out.kept hk (by omega))
  have HP2 := hid hp
  clear hk hr hp y0
  have y0 := N2.out.box.cell 0 _ rfl
  go_wp2_with (refine wl_store1 rfl 3 _ _ rfl (w.heap.size + 2) 1 rfl (.int .i64 y) rfl rfl rfl [.int .i64 x, .int .i64 0, .slice none 0 0, .int .i64 0, .string ⟨#[]⟩] 70 C2.out (by simp) (by kernel_rfl) ?_; intro u2 Hz; have M2 : Hid (PrAt b w u2 s2 [.int .i64 0, .int .i64 0, .slice none 0 0, .int .i64 0, .string ⟨#[]⟩] 70) := hid (N2.out.other Hz.out.2 (by omega)); have D2 : Hid (BxAt u2 (w.heap.size + 2) [.int .i64 x, .int .i64 y, .slice none 0 0, .int .i64 0, .string ⟨#[]⟩] 70) := hid Hz.out.1; clear Hz y0; have y0 := M2.out.box.cell 0 _ rfl)
  try go_wp2_with fail
  refine (ipbyte_got b s2 _ M2.out.rd).mono ?_
  rintro e w3 ⟨hk, hor⟩
  rcases hor with ⟨z, s3, v3, hp, rfl, rfl, hr⟩ | ⟨hp, rfl⟩
  rotate_left
  · have HX := hid (And.intro hp hk)
    clear hp hk
    go_wp2
    exact ⟨rfl, M2.out.kept.trans HX.out.2 (.inl rfl), .inr ⟨by have q0 := HP1.out; have q1 := HP2.out; have ql := list_no (p := pCt) HX.out.1; simp [pCg, pSeq, q0, q1, ql], rfl⟩⟩
  obtain ⟨n, rfl, hn, hl⟩ := list_of (p := pCt) hp
  have N3 := hid (M2.out.call hk hr)
  have C3 := hid (D2.out.kept hk (by omega))
  have HLs := hid hl
  have hn1 : (n : Int) < 256 := by omega
  clear hk hr hp hl y0 hn
  go_wp2_with fail
  go_loopw [12] (fun i wr => ∃ (j : Nat) (l : List Ct) (s4 : ByteArray) (v : Value) (F : Nat → Prop), j ≤ n ∧ i = .int .i64 (j : Int) ∧ pMany pCt j s3 = some (l, s4) ∧ PrAt b w wr s4 [.int .i64 0, .int .i64 0, .slice none 0 0, .int .i64 0, .string ⟨#[]⟩] 70 ∧ BxAt wr (w.heap.size + 2) [.int .i64 x, .int .i64 y, v, .int .i64 0, .string ⟨#[]⟩] 70 ∧ OwnD 72 9 (w.heap.size + 3) F wr v (l.map dCt) ∧ ∀ k, F k → w.heap.size + 2 < k ∧ k < wr.heap.size)
    (fun i _ => ((n : Int) - intOf i).toNat)
  case atStart => exact ⟨0, [], s3, _, fun _ => False, Nat.zero_le _, rfl, rfl, N3.out, C3.out, OwnD.nil _ _ _ _ _, fun _ h => h.elim⟩
  case round =>
    obtain ⟨j, l, s4, v, F, hj, rfl, hm, hpr, hbx, hO, hF⟩ := hrel
    have HS := hid (And.intro hpr hbx)
    have HO := hid (And.intro hO hF)
    have HM := hid hm
    obtain ⟨ad, cp, hvf⟩ := hO.form
    rw [List.length_map] at hvf
    clear hm hpr hbx hO hF
    have hj0 : (0 : Int) ≤ (j : Int) := Int.natCast_nonneg _
    have y0 := HS.out.1.box.cell 0 _ rfl
    by_cases hjn : j = n
    · have hj1 : ¬ ((j : Int) < (n : Int)) := by omega
      have HE : Hid (j = n) := hid hjn
      have HLf : Hid (pList pCt s2 = some (l, s4)) := hid (by rw [HLs.out, ← hjn]; exact HM.out)
      subst hvf
      have RL : Hid (Reads (fun k => w.heap.size + 3 ≤ k) wr (.slice ad l.length cp) (dCts l)) := hid ((HO.out.1.reads).mono (fun k _ hk => by
        rcases hk with hk | hk
        · have := (HO.out.2 k hk).1; show w.heap.size + 3 ≤ k; omega
        · exact (HO.out.1.lt k hk).1))
      clear hj hjn HO
      try go_wp2_with fail
      refine (ipsig_got b s4 _ HS.out.1.rd).mono ?_
      rintro e w6 ⟨hk, hor⟩
      rcases hor with ⟨g, s6, v6, hp, rfl, rfl, hr⟩ | ⟨hp, rfl⟩
      rotate_left
      · have HX := hid (And.intro hp hk)
        clear hp hk
        go_wp2
        exact ⟨rfl, HS.out.1.kept.trans HX.out.2 (.inl rfl), .inr ⟨by have q0 := HP1.out; have q1 := HP2.out; have q2 := HLf.out; have ql := HX.out.1; simp [pCg, pSeq, q0, q1, q2, ql], rfl⟩⟩
      have N6 := hid (HS.out.1.call hk hr)
      have C6 := hid (HS.out.2.kept hk (by omega))
      have RL := hid (RL.out.kept hk (by omega))
      have HP6 := hid hp
      clear hk hr hp y0
      have y0 := N6.out.box.cell 0 _ rfl
      go_wp2_with (first
        | (have := D6; refine wl_store_blk rfl 70 _ _ rfl (w.heap.size + 1) 0 rfl #[.int .i64 x, .int .i64 y, .slice ad l.length cp, .int .i64 g.1, .string g.2] rfl [.int .i64 0, .int .i64 0, .slice none 0 0, .int .i64 0, .string ⟨#[]⟩] 70 M6.out.res (by simp) (by kernel_rfl) (by simp [Value.oneCell']) ?_; intro ue Hz; have ME : Hid (PrAt b w ue s6 [.int .i64 x, .int .i64 y, .slice ad l.length cp, .int .i64 g.1, .string g.2] 70) := hid (M6.out.ans Hz.out.2 Hz.out.1); have RL := hid (RL.out.one Hz.out.2 (by omega)); clear Hz)
        | (refine wl_store_blk rfl 48 _ _ rfl (w.heap.size + 2) 3 rfl #[.int .i64 g.1, .string g.2] rfl [.int .i64 x, .int .i64 y, .slice ad l.length cp, .int .i64 0, .string ⟨#[]⟩] 70 C6.out (by simp) (by kernel_rfl) (by simp [Value.oneCell']) ?_; intro u6 Hz; have M6 : Hid (PrAt b w u6 s6 [.int .i64 0, .int .i64 0, .slice none 0 0, .int .i64 0, .string ⟨#[]⟩] 70) := hid (N6.out.other Hz.out.2 (by omega)); have D6 : Hid (BxAt u6 (w.heap.size + 2) [.int .i64 x, .int .i64 y, .slice ad l.length cp, .int .i64 g.1, .string g.2] 70) := hid Hz.out.1; have RL := hid (RL.out.one Hz.out.2 (by omega)); clear Hz y0; have z0 := D6.out.cell 0 _ rfl; have z1 := D6.out.cell 1 _ rfl; have z2 := D6.out.cell 2 _ rfl; have z3 := D6.out.cell 3 _ rfl; have z4 := D6.out.cell 4 _ rfl))
      have x0 := ME.out.res.cell 0 _ rfl; have x1 := ME.out.res.cell 1 _ rfl; have x2 := ME.out.res.cell 2 _ rfl; have x3 := ME.out.res.cell 3 _ rfl; have x4 := ME.out.res.cell 4 _ rfl
      refine bodyPost_ret (v := .agg #[.int .i64 x, .int .i64 y, .slice ad l.length cp, .int .i64 g.1, .string g.2]) (by simp [results, Try.results93, go_sem, x0, x1, x2, x3, x4]) rfl ?_
      exact ⟨ME.out.kept, .inl ⟨(x, y, l, g), s6, _, by have q0 := HP1.out; have q1 := HP2.out; have q2 := HLf.out; have q3 := HP6.out; simp [pCg, pSeq, q0, q1, q2, q3], rfl, ⟨_, rfl, RL.out.mono (fun k _ hk => by show w.heap.size ≤ k; have : w.heap.size + 3 ≤ k := hk; omega)⟩, ME.out.rd⟩⟩
    · have hj1 : (j : Int) < (n : Int) := by omega
      have HJ := hid (And.intro hj hjn)
      have y2 := HS.out.2.cell 2 _ rfl
      clear hj hjn hvf
      go_wp2_with fail
      have HSd : Hid (wr.drew.cell? ⟨w.heap.size, 0, none⟩ = some (.pointer (some ⟨b, 0, none⟩)) ∧ wr.drew.cell? ⟨w.heap.size + 2, 2, none⟩ = some v) := hid ⟨y0, y2⟩
      clear y0 y2
      refine wp_region_G (S := fun ww => ww.cell? ⟨w.heap.size, 0, none⟩ = some (.pointer (some ⟨b, 0, none⟩)) ∧ ww.cell? ⟨w.heap.size + 2, 2, none⟩ = some v) (ex := [7]) (by kernel_rfl) ?_
      try (change wpAnyG _ _ _ _ _ _ _ _ _ (World.drew _))
      refine wpAnyG_take (i := 0) (v := ?v1) rfl (by kernel_rfl) (fun _ _ _ h => h) (Or.inl ⟨by rfl, ?hy1⟩) HSd.out ?rest1
      case hy1 => (intro ww _; go_simp; try with_reducible rfl)
      go_simp
      refine wpAnyG_take (i := 1) (v := ?v2) rfl (by kernel_rfl) (fun _ _ _ h => h) (Or.inl ⟨by rfl, ?hy2⟩) HSd.out ?rest2
      case hy2 => (intro ww hS; obtain ⟨k0, k2⟩ := hS; go_simp; try with_reducible rfl)
      go_simp
      refine wpAnyG_take (i := 2) (v := ?v3) rfl (by kernel_rfl) (fun _ _ _ h => h) (Or.inl ⟨by rfl, ?hy3⟩) HSd.out ?rest3
      case hy3 => (intro ww hS; obtain ⟨k0, k2⟩ := hS; go_simp; try with_reducible rfl)
      go_simp
      refine wpAnyG_all (rs := [3]) (by kernel_rfl) (by simp) ?_
      intro i hi
      obtain rfl := List.mem_singleton.1 hi
      clear hi
      refine wpOp_q rfl (by rfl) (fun K hK => ?_)
      go_simp
      refine (ipcert_got b s4 _ (HS.out.1.under (Below.refl _ _).drew).rd).mono ?_
      rintro e w5 ⟨hk, hor⟩
      rcases hor with ⟨c, s5, v5, hp, rfl, ⟨v8, rfl, hR8⟩, hr⟩ | ⟨hp, rfl⟩
      rotate_left
      · have HX := hid (And.intro hp hk)
        clear hp hk
        go_simp
        exact ⟨rfl, (HS.out.1.under (Below.refl _ _).drew).kept.trans HX.out.2 (.inl rfl), .inr ⟨by have q0 := HP1.out; have q1 := HP2.out; have ql : pList pCt s2 = none := (by rw [HLs.out]; exact many_none (many_fail HM.out HX.out.1) n (by have := HJ.out; omega)); simp [pCg, pSeq, q0, q1, ql], rfl⟩⟩
      have M5 := hid (many_snoc HM.out hp)
      have hlen := many_len M5.out
      have hll : l.length + 1 ≤ 256 := by rw [List.length_append] at hlen; simp at hlen; omega
      have S5 : Hid (PrAt b w w5 s5 [.int .i64 0, .int .i64 0, .slice none 0 0, .int .i64 0, .string ⟨#[]⟩] 70 ∧ BxAt w5 (w.heap.size + 2) [.int .i64 x, .int .i64 y, v, .int .i64 0, .string ⟨#[]⟩] 70) := hid ⟨(HS.out.1.under (Below.refl _ _).drew).call hk hr, BxAt.kept (w := wr.drew) HS.out.2 hk (by omega)⟩
      have O5 : Hid (OwnD 72 9 (w.heap.size + 3) F w5 v (l.map dCt)) := hid ((HO.out.1.under (Below.refl wr.heap.size wr).drew (Nat.le_refl _)).kept hk (fun hFb => by have := (HO.out.2 b hFb).1; omega) (by omega))
      have HR8 := hid hR8
      have HSz : Hid (wr.heap.size ≤ w5.heap.size ∧ w.heap.size + 2 < wr.heap.size) := hid ⟨hk.size, lt_of_blk HS.out.2⟩
      clear hk hr hp hR8 hlen
      obtain ⟨ad8, cp8, hv8⟩ := Reads.form HR8.out
      rw [List.length_map] at hv8
      subst hv8
      refine hK _ _ ⟨fun _ => ⟨S5.out.1.box.cell 0 _ rfl, S5.out.2.cell 2 _ rfl⟩, ?_⟩
      clear hK K
      go_simp
      refine wpAnyG_all (rs := [4]) (by kernel_rfl) (by simp) ?_
      intro i hi
      obtain rfl := List.mem_singleton.1 hi
      clear hi
      refine wpOp_q rfl (by rfl) (fun K hK => ?_)
      go_simp
      refine hK _ _ ⟨fun _ => ⟨(S5.out.1.under ((Below.refl w5.heap.size w5).alloc (Nat.le_refl _) _)).box.cell 0 _ rfl, (S5.out.2.keep ((Below.refl w5.heap.size w5).alloc (Nat.le_refl _) _)).cell 2 _ rfl⟩, ?_⟩
      clear hK K
      go_simp
      refine wpAnyG_all (rs := [5]) (by kernel_rfl) (by simp) ?_
      intro i hi
      obtain rfl := List.mem_singleton.1 hi
      clear hi
      refine wpOp_q rfl (by rfl) (fun K hK => ?_)
      refine owp_add_D _ _ 68 72 rfl (.agg #[.int .i64 0, .int .i64 0, .int .i64 0, .int .i64 0, .int .i64 0, .string ⟨#[]⟩, .float .f64 0, .int .i64 0, .slice none 0 0]) 9 96 Try.underlying68 (by kernel_rfl) rfl (by decide) (w.heap.size + 3) F (fun k => w.heap.size + 2 < k ∧ k < w5.heap.size ∧ v.ownBlock ≠ some k) v (l.map dCt) (by rfl) (O5.out.under ((Below.refl w5.heap.size w5).alloc (Nat.le_refl _) _) (Nat.le_refl _)) (by have := lt_of_blk S5.out.2; simp; omega) w5.heap.size (by rfl) (dCt c) [.int .i64 c.1, .int .i64 c.2.1, .int .i64 c.2.2.1.c, .int .i64 c.2.2.1.st, .int .i64 c.2.2.1.k, .string c.2.2.1.key, .float .f64 c.2.2.1.b, .int .i64 c.2.2.1.id, .slice ad8 c.2.2.2.length cp8] rfl rfl (fun j u hu => cell_at (heap_alloc_last w5 _) j u hu) (fun q dd hq => by
        match q, hq with
        | 0, hq => cases hq; exact ⟨_, rfl, .i _⟩
        | 1, hq => cases hq; exact ⟨_, rfl, .i _⟩
        | 2, hq => cases hq; exact ⟨_, rfl, .i _⟩
        | 3, hq => cases hq; exact ⟨_, rfl, .i _⟩
        | 4, hq => cases hq; exact ⟨_, rfl, .i _⟩
        | 5, hq => cases hq; exact ⟨_, rfl, .s _⟩
        | 6, hq => cases hq; exact ⟨_, rfl, .f _⟩
        | 7, hq => cases hq; exact ⟨_, rfl, .i _⟩
        | 8, hq =>
          cases hq
          exact ⟨_, rfl, (HR8.out.mono (fun k hk1 hk2 => ⟨by have := HSz.out; have : wr.heap.size ≤ k := hk2; omega, hk1, fun e => by have := (HO.out.1.lt k e).2; have : wr.heap.size ≤ k := hk2; omega⟩)).under ((Below.refl w5.heap.size w5).alloc (Nat.le_refl _) _) (Nat.le_refl _)⟩
        | q + 9, hq => cases hq) (by simp [Value.oneCell']) (fun k _ hk => ⟨(HO.out.2 k hk).1, by have := (HO.out.2 k hk).2; have := HSz.out; omega, fun e => O5.out.sep k e hk⟩) (fun k hk hF => hF.2.2 hk) (fun k hF => by have := hF.2.1; simp; omega) (by rw [List.length_map]; omega) (by rw [List.length_map]; unfold maxLen; omega) ?_
      intro v' w6 Hz
      have H6 := hid Hz.out
      have S6 : Hid (PrAt b w w6 s5 [.int .i64 0, .int .i64 0, .slice none 0 0, .int .i64 0, .string ⟨#[]⟩] 70 ∧ BxAt w6 (w.heap.size + 2) [.int .i64 x, .int .i64 y, v, .int .i64 0, .string ⟨#[]⟩] 70) := hid (pr_grown S5.out.1 S5.out.2 Hz.out.2.1 (fun g hg => (O5.out.lt g hg).1))
      clear Hz
      refine hK _ _ ⟨fun _ => ⟨S6.out.1.box.cell 0 _ rfl, S6.out.2.cell 2 _ rfl⟩, ?_⟩
      clear hK K
      go_simp
      refine wpAnyG_take (i := 6) (v := ?v4) rfl (by kernel_rfl) (fun _ _ _ h => h) (Or.inl ⟨by rfl, ?hy4⟩) ⟨S6.out.1.box.cell 0 _ rfl, S6.out.2.cell 2 _ rfl⟩ ?rest4
      case hy4 => (intro ww _; go_simp; try with_reducible rfl)
      go_simp
      refine wpAnyG_all (rs := [7]) (by kernel_rfl) (by simp) ?_
      intro i hi
      obtain rfl := List.mem_singleton.1 hi
      clear hi
      refine wpOp_q rfl (by rfl) (fun K hK => ?_)
      obtain ⟨ad6, cp6, hv6⟩ := H6.out.1.form
      subst hv6
      refine owp_store1 68 _ _ rfl (w.heap.size + 2) 2 (by rfl) _ (by rfl) rfl rfl [.int .i64 x, .int .i64 y, v, .int .i64 0, .string ⟨#[]⟩] 70 S6.out.2 (by simp) (by kernel_rfl) ?_
      intro w7 Hz
      have S7 : Hid (PrAt b w w7 s5 [.int .i64 0, .int .i64 0, .slice none 0 0, .int .i64 0, .string ⟨#[]⟩] 70 ∧ BxAt w7 (w.heap.size + 2) [.int .i64 x, .int .i64 y, (.slice ad6 (l.map dCt ++ [dCt c]).length cp6), .int .i64 0, .string ⟨#[]⟩] 70 ∧ One (w.heap.size + 2) w6 w7) := hid ⟨S6.out.1.other Hz.out.2 (by omega), Hz.out.1, Hz.out.2⟩
      clear Hz
      refine hK _ _ ⟨fun h => absurd (by simp) h, ?_⟩
      clear hK K
      go_simp
      refine wpAnyG_done (by kernel_rfl) ?_ _
      go_simp
      go_wp2
      go_roundw
      case rel =>
        refine ⟨j + 1, l ++ [c], s5, _, fun k => w.heap.size + 2 < k ∧ k < w5.heap.size ∧ v.ownBlock ≠ some k, by have := HJ.out; omega, by go_num, M5.out, S7.out.1, S7.out.2.1, ?_, fun k hk => ⟨hk.1, ?_⟩⟩
        · rw [List.map_append]
          exact H6.out.1.one S7.out.2.2 (fun hF => by have := hF.1; omega) (fun e => by have := (H6.out.1.lt _ e).1; omega)
        · have h1 := hk.2.1
          have h2 := H6.out.2.1.size
          have h3 := S7.out.2.2.size
          simp at h2
          omega
      case measure => simp [intOf]; omega
end Go.Proofs.Ytepcdbmdfpaomaa
