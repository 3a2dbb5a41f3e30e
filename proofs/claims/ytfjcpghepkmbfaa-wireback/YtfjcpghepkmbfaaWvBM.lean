/- The law: what is told is read again; what is read is told as just these bytes. -/
import Derived.Test.YtfjcpghepkmbfaaWvPM
import Derived.Test.YtfjcpghepkmbfaaGb4
import Derived.Test.YtfjcpghepkmbfaaWvAM
import Derived.Deep.DeepCutAuto
import Derived.Deep.DeepMust
namespace Go.Proofs.Ytfjcpghepkmbfaa
open Go.RowKit

set_option maxRecDepth 100000 in
set_option maxHeartbeats 6400000 in
theorem wbk_yy {F : Nat → Prop} (m : Ms) (a13 a14 a15 a16 : Option Addr) (c13 c14 c15 c16 : Nat) (t : ByteArray) (w : World) (hB : MsB m) (hL : MsL F w m (.slice a13 m.nx.length c13) (.slice a14 m.sg.length c14) (.slice a15 m.cg.length c15) (.slice a16 m.ln.length c16)) (s : ByteArray) (k0 : byE m = 0) (hs : byT m = s) (n : Ms) (hn : rdMs s = n) (hrE : rdEr s = 0) (hsm : sameMs m n = true) (hC : MsN n) (q : Ms) (hq : rdMs t = q) (hqE : rdEr t = 0) (hqT : byT q = t) (hqY : byE q = 0) (hQ : MsB q) :
    Calls Try.prog 3 #[.agg (msA m a13 a14 a15 a16 c13 c14 c15 c16).toArray, .string t] w fun e w' => e = .returned (.bool true) ∧ Below w.heap.size w w' := by
  obtain ⟨wa, HA, hb, hx⟩ := msA_new m a13 a14 a15 a16 c13 c14 c15 c16 34 w
  have H0 := hid (And.intro hx hb)
  clear hb hx
  obtain ⟨X, eX⟩ : ∃ X, X = Value.agg (msA m a13 a14 a15 a16 c13 c14 c15 c16).toArray := ⟨_, rfl⟩
  have HX := hid eX
  have HY1 := hid (show Tst w 8 #[X] (.tuple #[.string s, .int .i64 0]) from fun u hu => by rw [eX]; have := ibytes_any m hB a13 a14 a15 a16 c13 c14 c15 c16 u (hL.under hu); rw [k0, hs] at this; exact this)
  have HR1 : Hid (∀ u : World, Calls Try.prog 9 #[.string s] u fun e w' => ∃ (v : Value) (b13 b14 b15 b16 : Option Addr) (d13 d14 d15 d16 : Nat), e = .returned (.tuple #[v, .int .i64 0]) ∧ v = .agg (msA n b13 b14 b15 b16 d13 d14 d15 d16).toArray ∧ MsL (fun k => u.heap.size ≤ k) w' n (.slice b13 n.nx.length d13) (.slice b14 n.sg.length d14) (.slice b15 n.cg.length d15) (.slice b16 n.ln.length d16) ∧ Below u.heap.size u w') := hid (fun u => by
    refine (iread_any s u).mono ?_
    rintro e w' ⟨⟨v, rfl, hv⟩, hb⟩
    rw [hrE]
    rw [hn] at hv
    obtain ⟨b13, d13, b14, d14, b15, d15, b16, d16, hv, hl⟩ := hv
    exact ⟨v, b13, b14, b15, b16, d13, d14, d15, d16, rfl, hv, hl, hb⟩)
  have HS : Hid (∀ (G : Nat → Prop) (u : World) (v : Value) (b13 b14 b15 b16 : Option Addr) (d13 d14 d15 d16 : Nat), v = .agg (msA n b13 b14 b15 b16 d13 d14 d15 d16).toArray → Below w.heap.size w u → MsL G u n (.slice b13 n.nx.length d13) (.slice b14 n.sg.length d14) (.slice b15 n.cg.length d15) (.slice b16 n.ln.length d16) → Calls Try.prog 10 #[X, v] u fun e w' => e = .returned (.bool true) ∧ Below u.heap.size u w') := hid (fun G u v b13 b14 b15 b16 d13 d14 d15 d16 hv hu hR => by rw [hv, eX]; have := wsameMs_any (F := F) (G := G) m n a13 a14 a15 a16 b13 b14 b15 b16 c13 c14 c15 c16 d13 d14 d15 d16 u hB.n hC (hL.under hu) hR; rwa [hsm] at this)
  have HR2 : Hid (∀ u : World, Calls Try.prog 9 #[.string t] u fun e w' => ∃ (v : Value) (e13 e14 e15 e16 : Option Addr) (f13 f14 f15 f16 : Nat), e = .returned (.tuple #[v, .int .i64 0]) ∧ v = .agg (msA q e13 e14 e15 e16 f13 f14 f15 f16).toArray ∧ MsL (fun k => u.heap.size ≤ k) w' q (.slice e13 q.nx.length f13) (.slice e14 q.sg.length f14) (.slice e15 q.cg.length f15) (.slice e16 q.ln.length f16) ∧ Below u.heap.size u w') := hid (fun u => by
    refine (iread_any t u).mono ?_
    rintro e w' ⟨⟨v, rfl, hv⟩, hb⟩
    rw [hqE]
    rw [hq] at hv
    obtain ⟨e13, f13, e14, f14, e15, f15, e16, f16, hv, hl⟩ := hv
    exact ⟨v, e13, e14, e15, e16, f13, f14, f15, f16, rfl, hv, hl, hb⟩)
  have HY2 : Hid (∀ (G : Nat → Prop) (u : World) (v : Value) (e13 e14 e15 e16 : Option Addr) (f13 f14 f15 f16 : Nat), v = .agg (msA q e13 e14 e15 e16 f13 f14 f15 f16).toArray → MsL G u q (.slice e13 q.nx.length f13) (.slice e14 q.sg.length f14) (.slice e15 q.cg.length f15) (.slice e16 q.ln.length f16) → Calls Try.prog 8 #[v] u fun e w' => e = .returned (.tuple #[.string t, .int .i64 0]) ∧ Below u.heap.size u w') := hid (fun G u v e13 e14 e15 e16 f13 f14 f15 f16 hv hR => by rw [hv]; have := ibytes_any q hQ e13 e14 e15 e16 f13 f14 f15 f16 u hR; rw [hqT, hqY] at this; exact this)
  clear hB hL k0 hs hn hrE hsm hC hq hqE hqT hqY hQ
  unfold msA
  simp only [msA] at HA eX
  replace HA := hid HA
  go_enter Try.func3, Try.ntmps3
  try simp only [List.append]
  go_upto_region 1 with fail
  rw [HA.out, ← eX]
  clear eX
  go_wp2_with (first
    | (have := H7; go_at_call 8; go_must (refine (HY2.out _ _ _ _ _ _ _ _ _ _ _ HV2.out H7.out.2.2).mono ?_; rintro e w8 ⟨rfl, hb⟩; have H8 := hid (H7.out.1.trans (hb.mono H7.out.1.size)); clear hb))
    | (have := H7; refine wl_loadA rfl 34 _ rfl w6.heap.size 0 rfl (msA q e13 e14 e15 e16 f13 f14 f15 f16) 34 H7.out.2.1 _ Try.underlying34 rfl (by kernel_rfl) v2 HV2.out rfl ?_)
    | (have := H6; refine wl_store_blk rfl 34 _ _ rfl w6.heap.size 0 rfl _ HV2.out [.int .i64 0, .int .i64 0, .int .i64 0, .int .i64 0, .int .i64 0, .int .i64 0, .int .i64 0, .string ⟨#[]⟩, .float .f64 0, .int .i64 0, .int .i64 0, .float .f64 0, .string ⟨#[]⟩, .slice none 0 0, .slice none 0 0, .slice none 0 0, .slice none 0 0] 34 (heap_alloc_last w6 _) (by simp [msA]) (by kernel_rfl) (by simp [msA, Value.oneCell']) ?_; go_must (intro w7 Hz; have hst : Below w6.heap.size w6 w7 ∧ BxAt w7 w6.heap.size (msA q e13 e14 e15 e16 f13 f14 f15 f16) 34 := ⟨Hz.out.2.below ((Below.refl w6.heap.size w6).alloc (Nat.le_refl _) _) (Nat.le_refl _), Hz.out.1⟩; have H7 := hid (And.intro (H6.out.1.trans (hst.1.mono H6.out.1.size)) (And.intro hst.2 (H6.out.2.under hst.1))); clear hst Hz))
    | (have := H5; go_at_call 9; go_must (refine (HR2.out _).mono ?_; rintro e w6 ⟨v2, e13, e14, e15, e16, f13, f14, f15, f16, rfl, hv, hl, hb⟩; have HV2 := hid hv; have H6 := hid (And.intro (H5.out.trans (hb.mono H5.out.size)) hl); clear hb hl hv))
    | (have := H4; go_at_call 10; go_must (refine (HS.out _ _ _ _ _ _ _ _ _ _ _ HV1.out H4.out.1.2 H4.out.2.2).mono ?_; rintro e w5 ⟨rfl, hb⟩; have H5 := hid (H4.out.1.2.trans (hb.mono H4.out.1.2.size)); clear hb))
    | (have := H4; refine wl_loadA rfl 34 _ rfl w3.heap.size 0 rfl (msA n b13 b14 b15 b16 d13 d14 d15 d16) 34 H4.out.2.1 _ Try.underlying34 rfl (by kernel_rfl) v1 HV1.out rfl ?_)
    | (have := H4; refine wl_loadA rfl 34 _ rfl w.heap.size 0 rfl (msA m a13 a14 a15 a16 c13 c14 c15 c16) 34 H4.out.1.1 _ Try.underlying34 rfl (by kernel_rfl) X HX.out rfl ?_)
    | (have := H3; refine wl_store_blk rfl 34 _ _ rfl w3.heap.size 0 rfl _ HV1.out [.int .i64 0, .int .i64 0, .int .i64 0, .int .i64 0, .int .i64 0, .int .i64 0, .int .i64 0, .string ⟨#[]⟩, .float .f64 0, .int .i64 0, .int .i64 0, .float .f64 0, .string ⟨#[]⟩, .slice none 0 0, .slice none 0 0, .slice none 0 0, .slice none 0 0] 34 (heap_alloc_last w3 _) (by simp [msA]) (by kernel_rfl) (by simp [msA, Value.oneCell']) ?_; go_must (intro w4 Hz; have hst : Below w3.heap.size w3 w4 ∧ BxAt w4 w3.heap.size (msA n b13 b14 b15 b16 d13 d14 d15 d16) 34 := ⟨Hz.out.2.below ((Below.refl w3.heap.size w3).alloc (Nat.le_refl _) _) (Nat.le_refl _), Hz.out.1⟩; have H4 := hid (And.intro (bx_next H3.out.1 hst.1) (And.intro hst.2 (H3.out.2.under hst.1))); clear hst Hz))
    | (have := H2; go_at_call 9; go_must (refine (HR1.out _).mono ?_; rintro e w3 ⟨v1, b13, b14, b15, b16, d13, d14, d15, d16, rfl, hv, hl, hb⟩; have HV1 := hid hv; have H3 := hid (And.intro (bx_next H2.out hb) hl); clear hb hl hv))
    | (have := H1; go_at_call 8; go_must (refine (HY1.out _ H1.out.2).mono ?_; rintro e w2 ⟨rfl, hb⟩; have H2 := hid (bx_next H1.out hb); clear hb))
    | (have := H1; refine wl_loadA rfl 34 _ rfl w.heap.size 0 rfl (msA m a13 a14 a15 a16 c13 c14 c15 c16) 34 H1.out.1 _ Try.underlying34 rfl (by kernel_rfl) X HX.out rfl ?_)
    | (have := H0; go_at_call 7; go_must (refine (wlives_any _).mono ?_; rintro e w1 ⟨rfl, hb⟩; have H1 := hid (bx_next H0.out hb); clear hb)))
  go_ret
  exact ⟨by simp, H8.out⟩
set_option maxRecDepth 100000 in
set_option maxHeartbeats 6400000 in
theorem wbk_yn {F : Nat → Prop} (m : Ms) (a13 a14 a15 a16 : Option Addr) (c13 c14 c15 c16 : Nat) (t : ByteArray) (w : World) (hB : MsB m) (hL : MsL F w m (.slice a13 m.nx.length c13) (.slice a14 m.sg.length c14) (.slice a15 m.cg.length c15) (.slice a16 m.ln.length c16)) (s : ByteArray) (k0 : byE m = 0) (hs : byT m = s) (n : Ms) (hn : rdMs s = n) (hrE : rdEr s = 0) (hsm : sameMs m n = true) (hC : MsN n) (G : Int) (hqE : rdEr t = G) (hG : G ≠ 0) (q : Ms) (hq : rdMs t = q) (hQ : MsN q) (hsz : sameMs q zeroM = true) :
    Calls Try.prog 3 #[.agg (msA m a13 a14 a15 a16 c13 c14 c15 c16).toArray, .string t] w fun e w' => e = .returned (.bool true) ∧ Below w.heap.size w w' := by
  obtain ⟨wa, HA, hb, hx⟩ := msA_new m a13 a14 a15 a16 c13 c14 c15 c16 34 w
  have H0 := hid (And.intro hx hb)
  clear hb hx
  obtain ⟨X, eX⟩ : ∃ X, X = Value.agg (msA m a13 a14 a15 a16 c13 c14 c15 c16).toArray := ⟨_, rfl⟩
  have HX := hid eX
  have HY1 := hid (show Tst w 8 #[X] (.tuple #[.string s, .int .i64 0]) from fun u hu => by rw [eX]; have := ibytes_any m hB a13 a14 a15 a16 c13 c14 c15 c16 u (hL.under hu); rw [k0, hs] at this; exact this)
  have HR1 : Hid (∀ u : World, Calls Try.prog 9 #[.string s] u fun e w' => ∃ (v : Value) (b13 b14 b15 b16 : Option Addr) (d13 d14 d15 d16 : Nat), e = .returned (.tuple #[v, .int .i64 0]) ∧ v = .agg (msA n b13 b14 b15 b16 d13 d14 d15 d16).toArray ∧ MsL (fun k => u.heap.size ≤ k) w' n (.slice b13 n.nx.length d13) (.slice b14 n.sg.length d14) (.slice b15 n.cg.length d15) (.slice b16 n.ln.length d16) ∧ Below u.heap.size u w') := hid (fun u => by
    refine (iread_any s u).mono ?_
    rintro e w' ⟨⟨v, rfl, hv⟩, hb⟩
    rw [hrE]
    rw [hn] at hv
    obtain ⟨b13, d13, b14, d14, b15, d15, b16, d16, hv, hl⟩ := hv
    exact ⟨v, b13, b14, b15, b16, d13, d14, d15, d16, rfl, hv, hl, hb⟩)
  have HS : Hid (∀ (G : Nat → Prop) (u : World) (v : Value) (b13 b14 b15 b16 : Option Addr) (d13 d14 d15 d16 : Nat), v = .agg (msA n b13 b14 b15 b16 d13 d14 d15 d16).toArray → Below w.heap.size w u → MsL G u n (.slice b13 n.nx.length d13) (.slice b14 n.sg.length d14) (.slice b15 n.cg.length d15) (.slice b16 n.ln.length d16) → Calls Try.prog 10 #[X, v] u fun e w' => e = .returned (.bool true) ∧ Below u.heap.size u w') := hid (fun G u v b13 b14 b15 b16 d13 d14 d15 d16 hv hu hR => by rw [hv, eX]; have := wsameMs_any (F := F) (G := G) m n a13 a14 a15 a16 b13 b14 b15 b16 c13 c14 c15 c16 d13 d14 d15 d16 u hB.n hC (hL.under hu) hR; rwa [hsm] at this)
  have HR2 : Hid (∀ u : World, Calls Try.prog 9 #[.string t] u fun e w' => ∃ (v : Value) (e13 e14 e15 e16 : Option Addr) (f13 f14 f15 f16 : Nat), e = .returned (.tuple #[v, .int .i64 G]) ∧ v = .agg (msA q e13 e14 e15 e16 f13 f14 f15 f16).toArray ∧ MsL (fun k => u.heap.size ≤ k) w' q (.slice e13 q.nx.length f13) (.slice e14 q.sg.length f14) (.slice e15 q.cg.length f15) (.slice e16 q.ln.length f16) ∧ Below u.heap.size u w') := hid (fun u => by
    refine (iread_any t u).mono ?_
    rintro e w' ⟨⟨v, rfl, hv⟩, hb⟩
    rw [hqE]
    rw [hq] at hv
    obtain ⟨e13, f13, e14, f14, e15, f15, e16, f16, hv, hl⟩ := hv
    exact ⟨v, e13, e14, e15, e16, f13, f14, f15, f16, rfl, hv, hl, hb⟩)
  have q2 : (G != 0) = true := by simpa using hG
  have HZ : Hid (∀ (G : Nat → Prop) (u : World) (v : Value) (e13 e14 e15 e16 : Option Addr) (f13 f14 f15 f16 : Nat), v = .agg (msA q e13 e14 e15 e16 f13 f14 f15 f16).toArray → MsL G u q (.slice e13 q.nx.length f13) (.slice e14 q.sg.length f14) (.slice e15 q.cg.length f15) (.slice e16 q.ln.length f16) → Calls Try.prog 10 #[v, .agg #[.int .i64 0, .int .i64 0, .int .i64 0, .int .i64 0, .int .i64 0, .int .i64 0, .int .i64 0, .string ⟨#[]⟩, .float .f64 0, .int .i64 0, .int .i64 0, .float .f64 0, .string ⟨#[]⟩, .slice none 0 0, .slice none 0 0, .slice none 0 0, .slice none 0 0]] u fun e w' => e = .returned (.bool true) ∧ Below u.heap.size u w') := hid (fun G u v e13 e14 e15 e16 f13 f14 f15 f16 hv hR => by rw [hv]; have := wsameMs_any (F := G) (G := fun _ => True) q zeroM e13 e14 e15 e16 none none none none f13 f14 f15 f16 0 0 0 0 u hQ zero_b.n hR ⟨.nil _ _ _, .nil _ _ _, .nil _ _ _, .nil _ _ _⟩; rw [hsz] at this; exact this)
  clear hB hL k0 hs hn hrE hsm hC hqE hG hq hQ hsz
  unfold msA
  simp only [msA] at HA eX
  replace HA := hid HA
  go_enter Try.func3, Try.ntmps3
  try simp only [List.append]
  go_upto_region 1 with fail
  rw [HA.out, ← eX]
  clear eX
  go_wp2_with (first
    | (have := H7; go_at_call 10; go_must (refine (HZ.out _ _ _ _ _ _ _ _ _ _ _ HV2.out H7.out.2.2).mono ?_; rintro e w8 ⟨rfl, hb⟩; have H8 := hid (H7.out.1.trans (hb.mono H7.out.1.size)); clear hb))
    | (have := H7; refine wl_loadA rfl 34 _ rfl w6.heap.size 0 rfl (msA q e13 e14 e15 e16 f13 f14 f15 f16) 34 H7.out.2.1 _ Try.underlying34 rfl (by kernel_rfl) v2 HV2.out rfl ?_)
    | (have := H6; refine wl_store_blk rfl 34 _ _ rfl w6.heap.size 0 rfl _ HV2.out [.int .i64 0, .int .i64 0, .int .i64 0, .int .i64 0, .int .i64 0, .int .i64 0, .int .i64 0, .string ⟨#[]⟩, .float .f64 0, .int .i64 0, .int .i64 0, .float .f64 0, .string ⟨#[]⟩, .slice none 0 0, .slice none 0 0, .slice none 0 0, .slice none 0 0] 34 (heap_alloc_last w6 _) (by simp [msA]) (by kernel_rfl) (by simp [msA, Value.oneCell']) ?_; go_must (intro w7 Hz; have hst : Below w6.heap.size w6 w7 ∧ BxAt w7 w6.heap.size (msA q e13 e14 e15 e16 f13 f14 f15 f16) 34 := ⟨Hz.out.2.below ((Below.refl w6.heap.size w6).alloc (Nat.le_refl _) _) (Nat.le_refl _), Hz.out.1⟩; have H7 := hid (And.intro (H6.out.1.trans (hst.1.mono H6.out.1.size)) (And.intro hst.2 (H6.out.2.under hst.1))); clear hst Hz))
    | (have := H5; go_at_call 9; go_must (refine (HR2.out _).mono ?_; rintro e w6 ⟨v2, e13, e14, e15, e16, f13, f14, f15, f16, rfl, hv, hl, hb⟩; have HV2 := hid hv; have H6 := hid (And.intro (H5.out.trans (hb.mono H5.out.size)) hl); clear hb hl hv))
    | (have := H4; go_at_call 10; go_must (refine (HS.out _ _ _ _ _ _ _ _ _ _ _ HV1.out H4.out.1.2 H4.out.2.2).mono ?_; rintro e w5 ⟨rfl, hb⟩; have H5 := hid (H4.out.1.2.trans (hb.mono H4.out.1.2.size)); clear hb))
    | (have := H4; refine wl_loadA rfl 34 _ rfl w3.heap.size 0 rfl (msA n b13 b14 b15 b16 d13 d14 d15 d16) 34 H4.out.2.1 _ Try.underlying34 rfl (by kernel_rfl) v1 HV1.out rfl ?_)
    | (have := H4; refine wl_loadA rfl 34 _ rfl w.heap.size 0 rfl (msA m a13 a14 a15 a16 c13 c14 c15 c16) 34 H4.out.1.1 _ Try.underlying34 rfl (by kernel_rfl) X HX.out rfl ?_)
    | (have := H3; refine wl_store_blk rfl 34 _ _ rfl w3.heap.size 0 rfl _ HV1.out [.int .i64 0, .int .i64 0, .int .i64 0, .int .i64 0, .int .i64 0, .int .i64 0, .int .i64 0, .string ⟨#[]⟩, .float .f64 0, .int .i64 0, .int .i64 0, .float .f64 0, .string ⟨#[]⟩, .slice none 0 0, .slice none 0 0, .slice none 0 0, .slice none 0 0] 34 (heap_alloc_last w3 _) (by simp [msA]) (by kernel_rfl) (by simp [msA, Value.oneCell']) ?_; go_must (intro w4 Hz; have hst : Below w3.heap.size w3 w4 ∧ BxAt w4 w3.heap.size (msA n b13 b14 b15 b16 d13 d14 d15 d16) 34 := ⟨Hz.out.2.below ((Below.refl w3.heap.size w3).alloc (Nat.le_refl _) _) (Nat.le_refl _), Hz.out.1⟩; have H4 := hid (And.intro (bx_next H3.out.1 hst.1) (And.intro hst.2 (H3.out.2.under hst.1))); clear hst Hz))
    | (have := H2; go_at_call 9; go_must (refine (HR1.out _).mono ?_; rintro e w3 ⟨v1, b13, b14, b15, b16, d13, d14, d15, d16, rfl, hv, hl, hb⟩; have HV1 := hid hv; have H3 := hid (And.intro (bx_next H2.out hb) hl); clear hb hl hv))
    | (have := H1; go_at_call 8; go_must (refine (HY1.out _ H1.out.2).mono ?_; rintro e w2 ⟨rfl, hb⟩; have H2 := hid (bx_next H1.out hb); clear hb))
    | (have := H1; refine wl_loadA rfl 34 _ rfl w.heap.size 0 rfl (msA m a13 a14 a15 a16 c13 c14 c15 c16) 34 H1.out.1 _ Try.underlying34 rfl (by kernel_rfl) X HX.out rfl ?_)
    | (have := H0; go_at_call 7; go_must (refine (wlives_any _).mono ?_; rintro e w1 ⟨rfl, hb⟩; have H1 := hid (bx_next H0.out hb); clear hb)))
  go_ret
  exact ⟨by simp, H8.out⟩
set_option maxRecDepth 100000 in
set_option maxHeartbeats 6400000 in
theorem wbk_ny {F : Nat → Prop} (m : Ms) (a13 a14 a15 a16 : Option Addr) (c13 c14 c15 c16 : Nat) (t : ByteArray) (w : World) (hB : MsB m) (hL : MsL F w m (.slice a13 m.nx.length c13) (.slice a14 m.sg.length c14) (.slice a15 m.cg.length c15) (.slice a16 m.ln.length c16)) (E : Int) (k0 : byE m = E) (hE : E ≠ 0) (q : Ms) (hq : rdMs t = q) (hqE : rdEr t = 0) (hqT : byT q = t) (hqY : byE q = 0) (hQ : MsB q) :
    Calls Try.prog 3 #[.agg (msA m a13 a14 a15 a16 c13 c14 c15 c16).toArray, .string t] w fun e w' => e = .returned (.bool true) ∧ Below w.heap.size w w' := by
  obtain ⟨wa, HA, hb, hx⟩ := msA_new m a13 a14 a15 a16 c13 c14 c15 c16 34 w
  have H0 := hid (And.intro hx hb)
  clear hb hx
  obtain ⟨X, eX⟩ : ∃ X, X = Value.agg (msA m a13 a14 a15 a16 c13 c14 c15 c16).toArray := ⟨_, rfl⟩
  have HX := hid eX
  have HY1 := hid (show Tst w 8 #[X] (.tuple #[.string (byT m), .int .i64 E]) from fun u hu => by rw [eX]; have := ibytes_any m hB a13 a14 a15 a16 c13 c14 c15 c16 u (hL.under hu); rw [k0] at this; exact this)
  have q1 : (E == 0) = false := by simpa using hE
  have HR2 : Hid (∀ u : World, Calls Try.prog 9 #[.string t] u fun e w' => ∃ (v : Value) (e13 e14 e15 e16 : Option Addr) (f13 f14 f15 f16 : Nat), e = .returned (.tuple #[v, .int .i64 0]) ∧ v = .agg (msA q e13 e14 e15 e16 f13 f14 f15 f16).toArray ∧ MsL (fun k => u.heap.size ≤ k) w' q (.slice e13 q.nx.length f13) (.slice e14 q.sg.length f14) (.slice e15 q.cg.length f15) (.slice e16 q.ln.length f16) ∧ Below u.heap.size u w') := hid (fun u => by
    refine (iread_any t u).mono ?_
    rintro e w' ⟨⟨v, rfl, hv⟩, hb⟩
    rw [hqE]
    rw [hq] at hv
    obtain ⟨e13, f13, e14, f14, e15, f15, e16, f16, hv, hl⟩ := hv
    exact ⟨v, e13, e14, e15, e16, f13, f14, f15, f16, rfl, hv, hl, hb⟩)
  have HY2 : Hid (∀ (G : Nat → Prop) (u : World) (v : Value) (e13 e14 e15 e16 : Option Addr) (f13 f14 f15 f16 : Nat), v = .agg (msA q e13 e14 e15 e16 f13 f14 f15 f16).toArray → MsL G u q (.slice e13 q.nx.length f13) (.slice e14 q.sg.length f14) (.slice e15 q.cg.length f15) (.slice e16 q.ln.length f16) → Calls Try.prog 8 #[v] u fun e w' => e = .returned (.tuple #[.string t, .int .i64 0]) ∧ Below u.heap.size u w') := hid (fun G u v e13 e14 e15 e16 f13 f14 f15 f16 hv hR => by rw [hv]; have := ibytes_any q hQ e13 e14 e15 e16 f13 f14 f15 f16 u hR; rw [hqT, hqY] at this; exact this)
  clear hB hL k0 hE hq hqE hqT hqY hQ
  unfold msA
  simp only [msA] at HA eX
  replace HA := hid HA
  go_enter Try.func3, Try.ntmps3
  try simp only [List.append]
  go_upto_region 1 with fail
  rw [HA.out, ← eX]
  clear eX
  go_wp2_with (first
    | (have := H7; go_at_call 8; go_must (refine (HY2.out _ _ _ _ _ _ _ _ _ _ _ HV2.out H7.out.2.2).mono ?_; rintro e w8 ⟨rfl, hb⟩; have H8 := hid (H7.out.1.trans (hb.mono H7.out.1.size)); clear hb))
    | (have := H7; refine wl_loadA rfl 34 _ rfl w6.heap.size 0 rfl (msA q e13 e14 e15 e16 f13 f14 f15 f16) 34 H7.out.2.1 _ Try.underlying34 rfl (by kernel_rfl) v2 HV2.out rfl ?_)
    | (have := H6; refine wl_store_blk rfl 34 _ _ rfl w6.heap.size 0 rfl _ HV2.out [.int .i64 0, .int .i64 0, .int .i64 0, .int .i64 0, .int .i64 0, .int .i64 0, .int .i64 0, .string ⟨#[]⟩, .float .f64 0, .int .i64 0, .int .i64 0, .float .f64 0, .string ⟨#[]⟩, .slice none 0 0, .slice none 0 0, .slice none 0 0, .slice none 0 0] 34 (heap_alloc_last w6 _) (by simp [msA]) (by kernel_rfl) (by simp [msA, Value.oneCell']) ?_; go_must (intro w7 Hz; have hst : Below w6.heap.size w6 w7 ∧ BxAt w7 w6.heap.size (msA q e13 e14 e15 e16 f13 f14 f15 f16) 34 := ⟨Hz.out.2.below ((Below.refl w6.heap.size w6).alloc (Nat.le_refl _) _) (Nat.le_refl _), Hz.out.1⟩; have H7 := hid (And.intro (H6.out.1.trans (hst.1.mono H6.out.1.size)) (And.intro hst.2 (H6.out.2.under hst.1))); clear hst Hz))
    | (have := H2; go_at_call 9; go_must (refine (HR2.out _).mono ?_; rintro e w6 ⟨v2, e13, e14, e15, e16, f13, f14, f15, f16, rfl, hv, hl, hb⟩; have HV2 := hid hv; have H6 := hid (And.intro (H2.out.2.trans (hb.mono H2.out.2.size)) hl); clear hb hl hv))
    | (have := H1; go_at_call 8; go_must (refine (HY1.out _ H1.out.2).mono ?_; rintro e w2 ⟨rfl, hb⟩; have H2 := hid (bx_next H1.out hb); clear hb))
    | (have := H1; refine wl_loadA rfl 34 _ rfl w.heap.size 0 rfl (msA m a13 a14 a15 a16 c13 c14 c15 c16) 34 H1.out.1 _ Try.underlying34 rfl (by kernel_rfl) X HX.out rfl ?_)
    | (have := H0; go_at_call 7; go_must (refine (wlives_any _).mono ?_; rintro e w1 ⟨rfl, hb⟩; have H1 := hid (bx_next H0.out hb); clear hb)))
  go_ret
  exact ⟨by simp, H8.out⟩
set_option maxRecDepth 100000 in
set_option maxHeartbeats 6400000 in
theorem wbk_nn {F : Nat → Prop} (m : Ms) (a13 a14 a15 a16 : Option Addr) (c13 c14 c15 c16 : Nat) (t : ByteArray) (w : World) (hB : MsB m) (hL : MsL F w m (.slice a13 m.nx.length c13) (.slice a14 m.sg.length c14) (.slice a15 m.cg.length c15) (.slice a16 m.ln.length c16)) (E : Int) (k0 : byE m = E) (hE : E ≠ 0) (G : Int) (hqE : rdEr t = G) (hG : G ≠ 0) (q : Ms) (hq : rdMs t = q) (hQ : MsN q) (hsz : sameMs q zeroM = true) :
    Calls Try.prog 3 #[.agg (msA m a13 a14 a15 a16 c13 c14 c15 c16).toArray, .string t] w fun e w' => e = .returned (.bool true) ∧ Below w.heap.size w w' := by
  obtain ⟨wa, HA, hb, hx⟩ := msA_new m a13 a14 a15 a16 c13 c14 c15 c16 34 w
  have H0 := hid (And.intro hx hb)
  clear hb hx
  obtain ⟨X, eX⟩ : ∃ X, X = Value.agg (msA m a13 a14 a15 a16 c13 c14 c15 c16).toArray := ⟨_, rfl⟩
  have HX := hid eX
  have HY1 := hid (show Tst w 8 #[X] (.tuple #[.string (byT m), .int .i64 E]) from fun u hu => by rw [eX]; have := ibytes_any m hB a13 a14 a15 a16 c13 c14 c15 c16 u (hL.under hu); rw [k0] at this; exact this)
  have q1 : (E == 0) = false := by simpa using hE
  have HR2 : Hid (∀ u : World, Calls Try.prog 9 #[.string t] u fun e w' => ∃ (v : Value) (e13 e14 e15 e16 : Option Addr) (f13 f14 f15 f16 : Nat), e = .returned (.tuple #[v, .int .i64 G]) ∧ v = .agg (msA q e13 e14 e15 e16 f13 f14 f15 f16).toArray ∧ MsL (fun k => u.heap.size ≤ k) w' q (.slice e13 q.nx.length f13) (.slice e14 q.sg.length f14) (.slice e15 q.cg.length f15) (.slice e16 q.ln.length f16) ∧ Below u.heap.size u w') := hid (fun u => by
    refine (iread_any t u).mono ?_
    rintro e w' ⟨⟨v, rfl, hv⟩, hb⟩
    rw [hqE]
    rw [hq] at hv
    obtain ⟨e13, f13, e14, f14, e15, f15, e16, f16, hv, hl⟩ := hv
    exact ⟨v, e13, e14, e15, e16, f13, f14, f15, f16, rfl, hv, hl, hb⟩)
  have q2 : (G != 0) = true := by simpa using hG
  have HZ : Hid (∀ (G : Nat → Prop) (u : World) (v : Value) (e13 e14 e15 e16 : Option Addr) (f13 f14 f15 f16 : Nat), v = .agg (msA q e13 e14 e15 e16 f13 f14 f15 f16).toArray → MsL G u q (.slice e13 q.nx.length f13) (.slice e14 q.sg.length f14) (.slice e15 q.cg.length f15) (.slice e16 q.ln.length f16) → Calls Try.prog 10 #[v, .agg #[.int .i64 0, .int .i64 0, .int .i64 0, .int .i64 0, .int .i64 0, .int .i64 0, .int .i64 0, .string ⟨#[]⟩, .float .f64 0, .int .i64 0, .int .i64 0, .float .f64 0, .string ⟨#[]⟩, .slice none 0 0, .slice none 0 0, .slice none 0 0, .slice none 0 0]] u fun e w' => e = .returned (.bool true) ∧ Below u.heap.size u w') := hid (fun G u v e13 e14 e15 e16 f13 f14 f15 f16 hv hR => by rw [hv]; have := wsameMs_any (F := G) (G := fun _ => True) q zeroM e13 e14 e15 e16 none none none none f13 f14 f15 f16 0 0 0 0 u hQ zero_b.n hR ⟨.nil _ _ _, .nil _ _ _, .nil _ _ _, .nil _ _ _⟩; rw [hsz] at this; exact this)
  clear hB hL k0 hE hqE hG hq hQ hsz
  unfold msA
  simp only [msA] at HA eX
  replace HA := hid HA
  go_enter Try.func3, Try.ntmps3
  try simp only [List.append]
  go_upto_region 1 with fail
  rw [HA.out, ← eX]
  clear eX
  go_wp2_with (first
    | (have := H7; go_at_call 10; go_must (refine (HZ.out _ _ _ _ _ _ _ _ _ _ _ HV2.out H7.out.2.2).mono ?_; rintro e w8 ⟨rfl, hb⟩; have H8 := hid (H7.out.1.trans (hb.mono H7.out.1.size)); clear hb))
    | (have := H7; refine wl_loadA rfl 34 _ rfl w6.heap.size 0 rfl (msA q e13 e14 e15 e16 f13 f14 f15 f16) 34 H7.out.2.1 _ Try.underlying34 rfl (by kernel_rfl) v2 HV2.out rfl ?_)
    | (have := H6; refine wl_store_blk rfl 34 _ _ rfl w6.heap.size 0 rfl _ HV2.out [.int .i64 0, .int .i64 0, .int .i64 0, .int .i64 0, .int .i64 0, .int .i64 0, .int .i64 0, .string ⟨#[]⟩, .float .f64 0, .int .i64 0, .int .i64 0, .float .f64 0, .string ⟨#[]⟩, .slice none 0 0, .slice none 0 0, .slice none 0 0, .slice none 0 0] 34 (heap_alloc_last w6 _) (by simp [msA]) (by kernel_rfl) (by simp [msA, Value.oneCell']) ?_; go_must (intro w7 Hz; have hst : Below w6.heap.size w6 w7 ∧ BxAt w7 w6.heap.size (msA q e13 e14 e15 e16 f13 f14 f15 f16) 34 := ⟨Hz.out.2.below ((Below.refl w6.heap.size w6).alloc (Nat.le_refl _) _) (Nat.le_refl _), Hz.out.1⟩; have H7 := hid (And.intro (H6.out.1.trans (hst.1.mono H6.out.1.size)) (And.intro hst.2 (H6.out.2.under hst.1))); clear hst Hz))
    | (have := H2; go_at_call 9; go_must (refine (HR2.out _).mono ?_; rintro e w6 ⟨v2, e13, e14, e15, e16, f13, f14, f15, f16, rfl, hv, hl, hb⟩; have HV2 := hid hv; have H6 := hid (And.intro (H2.out.2.trans (hb.mono H2.out.2.size)) hl); clear hb hl hv))
    | (have := H1; go_at_call 8; go_must (refine (HY1.out _ H1.out.2).mono ?_; rintro e w2 ⟨rfl, hb⟩; have H2 := hid (bx_next H1.out hb); clear hb))
    | (have := H1; refine wl_loadA rfl 34 _ rfl w.heap.size 0 rfl (msA m a13 a14 a15 a16 c13 c14 c15 c16) 34 H1.out.1 _ Try.underlying34 rfl (by kernel_rfl) X HX.out rfl ?_)
    | (have := H0; go_at_call 7; go_must (refine (wlives_any _).mono ?_; rintro e w1 ⟨rfl, hb⟩; have H1 := hid (bx_next H0.out hb); clear hb)))
  go_ret
  exact ⟨by simp, H8.out⟩
theorem wback_any {F : Nat → Prop} (m : Ms) (a13 a14 a15 a16 : Option Addr) (c13 c14 c15 c16 : Nat) (t : ByteArray) (w : World) (hB : MsB m) (hL : MsL F w m (.slice a13 m.nx.length c13) (.slice a14 m.sg.length c14) (.slice a15 m.cg.length c15) (.slice a16 m.ln.length c16)) :
    Calls Try.prog 3 #[.agg (msA m a13 a14 a15 a16 c13 c14 c15 c16).toArray, .string t] w fun e w' => e = .returned (.bool true) ∧ Below w.heap.size w w' := by
  by_cases h1 : byE m = 0
  · obtain ⟨g1, g2⟩ := told_same hB h1
    by_cases h2 : rdEr t = 0
    · exact wbk_yy m a13 a14 a15 a16 c13 c14 c15 c16 t w hB hL _ h1 rfl _ rfl g1 g2 (rd_b _).n _ rfl h2 (rd_told h2).2 (rd_told h2).1 (rd_b t)
    · exact wbk_yn m a13 a14 a15 a16 c13 c14 c15 c16 t w hB hL _ h1 rfl _ rfl g1 g2 (rd_b _).n _ rfl h2 _ rfl (rd_b t).n (by rw [rd_no h2]; exact zero_same)
  · by_cases h2 : rdEr t = 0
    · exact wbk_ny m a13 a14 a15 a16 c13 c14 c15 c16 t w hB hL _ rfl h1 _ rfl h2 (rd_told h2).2 (rd_told h2).1 (rd_b t)
    · exact wbk_nn m a13 a14 a15 a16 c13 c14 c15 c16 t w hB hL _ rfl h1 _ rfl h2 _ rfl (rd_b t).n (by rw [rd_no h2]; exact zero_same)
end Go.Proofs.Ytfjcpghepkmbfaa
