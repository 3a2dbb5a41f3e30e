/- The law: two messages have the same bytes just if they are the same. -/
import Derived.Test.YtfjcpghepkmbfaaWvPM
import Derived.Test.YtfjcpghepkmbfaaGb4
import Derived.Test.YtfjcpghepkmbfaaWvAM
import Derived.Deep.DeepCutAuto
import Derived.Deep.DeepMust
namespace Go.Proofs.Ytfjcpghepkmbfaa
open Go.RowKit

set_option maxRecDepth 100000 in
set_option maxHeartbeats 6400000 in
theorem wun_1 {F G : Nat → Prop} (m n : Ms) (a13 a14 a15 a16 b13 b14 b15 b16 : Option Addr) (c13 c14 c15 c16 d13 d14 d15 d16 : Nat) (w : World) (hB : MsB m) (hC : MsB n) (hL : MsL F w m (.slice a13 m.nx.length c13) (.slice a14 m.sg.length c14) (.slice a15 m.cg.length c15) (.slice a16 m.ln.length c16)) (hR : MsL G w n (.slice b13 n.nx.length d13) (.slice b14 n.sg.length d14) (.slice b15 n.cg.length d15) (.slice b16 n.ln.length d16)) (E : Int) (hE : byE m = E) (h0 : E ≠ 0) :
    Calls Try.prog 5 #[.agg (msA m a13 a14 a15 a16 c13 c14 c15 c16).toArray, .agg (msA n b13 b14 b15 b16 d13 d14 d15 d16).toArray] w fun e w' => e = .returned (.bool true) ∧ Below w.heap.size w w' := by
  obtain ⟨W, HA, hm⟩ := ms2_new m n a13 a14 a15 a16 b13 b14 b15 b16 c13 c14 c15 c16 d13 d14 d15 d16 w
  have H0 := hid hm
  clear hm
  obtain ⟨X, eX⟩ : ∃ X, X = Value.agg (msA m a13 a14 a15 a16 c13 c14 c15 c16).toArray := ⟨_, rfl⟩
  obtain ⟨Z, eZ⟩ : ∃ Z, Z = Value.agg (msA n b13 b14 b15 b16 d13 d14 d15 d16).toArray := ⟨_, rfl⟩
  have HX := hid eX
  have HZ := hid eZ
  have HY1 := hid (show Tst w 8 #[X] (.tuple #[.string (byT m), .int .i64 E]) from fun u hu => by rw [eX]; have := ibytes_any m hB a13 a14 a15 a16 c13 c14 c15 c16 u (hL.under hu); rw [hE] at this; exact this)
  have HY2 := hid (show Tst w 8 #[Z] (.tuple #[.string (byT n), .int .i64 (byE n)]) from fun u hu => by rw [eZ]; have := ibytes_any n hC b13 b14 b15 b16 d13 d14 d15 d16 u (hR.under hu); exact this)
  have q1 : (E != 0) = true := by simpa using h0
  clear h0 hE
  clear hB hC hL hR
  unfold msA
  simp only [msA] at HA eX eZ
  replace HA := hid HA
  go_enter Try.func5, Try.ntmps5
  try simp only [List.append]
  go_upto_region 1 with fail
  rw [HA.out, ← eX, ← eZ]
  clear eX eZ
  go_wp2_with (first
    | (have := H2; go_at_call 8; go_must (refine (HY2.out _ H2.out.b).mono ?_; rintro e w3 ⟨rfl, hb⟩; have H3 := hid (H2.out.keep hb); clear hb))
    | (have := H1; go_at_call 8; go_must (refine (HY1.out _ H1.out.b).mono ?_; rintro e w2 ⟨rfl, hb⟩; have H2 := hid (H1.out.keep hb); clear hb))
    | (have := H0; go_at_call 7; go_must (refine (wlives_any _).mono ?_; rintro e w1 ⟨rfl, hb⟩; have H1 := hid (H0.out.keep hb); clear hb))
    | (have := H3; refine wl_loadA rfl 34 _ rfl w.heap.size 0 rfl (msA m a13 a14 a15 a16 c13 c14 c15 c16) 34 H3.out.x _ Try.underlying34 rfl (by kernel_rfl) X HX.out rfl ?_)
    | (have := H3; refine wl_loadA rfl 34 _ rfl (w.heap.size + 1) 0 rfl (msA n b13 b14 b15 b16 d13 d14 d15 d16) 34 H3.out.y _ Try.underlying34 rfl (by kernel_rfl) Z HZ.out rfl ?_)
    | (have := H2; refine wl_loadA rfl 34 _ rfl w.heap.size 0 rfl (msA m a13 a14 a15 a16 c13 c14 c15 c16) 34 H2.out.x _ Try.underlying34 rfl (by kernel_rfl) X HX.out rfl ?_)
    | (have := H2; refine wl_loadA rfl 34 _ rfl (w.heap.size + 1) 0 rfl (msA n b13 b14 b15 b16 d13 d14 d15 d16) 34 H2.out.y _ Try.underlying34 rfl (by kernel_rfl) Z HZ.out rfl ?_)
    | (have := H1; refine wl_loadA rfl 34 _ rfl w.heap.size 0 rfl (msA m a13 a14 a15 a16 c13 c14 c15 c16) 34 H1.out.x _ Try.underlying34 rfl (by kernel_rfl) X HX.out rfl ?_)
    | (have := H1; refine wl_loadA rfl 34 _ rfl (w.heap.size + 1) 0 rfl (msA n b13 b14 b15 b16 d13 d14 d15 d16) 34 H1.out.y _ Try.underlying34 rfl (by kernel_rfl) Z HZ.out rfl ?_))
  go_ret
  exact ⟨by simp, H3.out.b⟩
set_option maxRecDepth 100000 in
set_option maxHeartbeats 6400000 in
theorem wun_2 {F G : Nat → Prop} (m n : Ms) (a13 a14 a15 a16 b13 b14 b15 b16 : Option Addr) (c13 c14 c15 c16 d13 d14 d15 d16 : Nat) (w : World) (hB : MsB m) (hC : MsB n) (hL : MsL F w m (.slice a13 m.nx.length c13) (.slice a14 m.sg.length c14) (.slice a15 m.cg.length c15) (.slice a16 m.ln.length c16)) (hR : MsL G w n (.slice b13 n.nx.length d13) (.slice b14 n.sg.length d14) (.slice b15 n.cg.length d15) (.slice b16 n.ln.length d16)) (E : Int) (hE : byE n = E) (h0 : E ≠ 0) (k0 : byE m = 0) :
    Calls Try.prog 5 #[.agg (msA m a13 a14 a15 a16 c13 c14 c15 c16).toArray, .agg (msA n b13 b14 b15 b16 d13 d14 d15 d16).toArray] w fun e w' => e = .returned (.bool true) ∧ Below w.heap.size w w' := by
  obtain ⟨W, HA, hm⟩ := ms2_new m n a13 a14 a15 a16 b13 b14 b15 b16 c13 c14 c15 c16 d13 d14 d15 d16 w
  have H0 := hid hm
  clear hm
  obtain ⟨X, eX⟩ : ∃ X, X = Value.agg (msA m a13 a14 a15 a16 c13 c14 c15 c16).toArray := ⟨_, rfl⟩
  obtain ⟨Z, eZ⟩ : ∃ Z, Z = Value.agg (msA n b13 b14 b15 b16 d13 d14 d15 d16).toArray := ⟨_, rfl⟩
  have HX := hid eX
  have HZ := hid eZ
  have HY1 := hid (show Tst w 8 #[X] (.tuple #[.string (byT m), .int .i64 0]) from fun u hu => by rw [eX]; have := ibytes_any m hB a13 a14 a15 a16 c13 c14 c15 c16 u (hL.under hu); rw [k0] at this; exact this)
  have HY2 := hid (show Tst w 8 #[Z] (.tuple #[.string (byT n), .int .i64 E]) from fun u hu => by rw [eZ]; have := ibytes_any n hC b13 b14 b15 b16 d13 d14 d15 d16 u (hR.under hu); rw [hE] at this; exact this)
  have q1 : (E != 0) = true := by simpa using h0
  clear h0 hE k0
  clear hB hC hL hR
  unfold msA
  simp only [msA] at HA eX eZ
  replace HA := hid HA
  go_enter Try.func5, Try.ntmps5
  try simp only [List.append]
  go_upto_region 1 with fail
  rw [HA.out, ← eX, ← eZ]
  clear eX eZ
  go_wp2_with (first
    | (have := H2; go_at_call 8; go_must (refine (HY2.out _ H2.out.b).mono ?_; rintro e w3 ⟨rfl, hb⟩; have H3 := hid (H2.out.keep hb); clear hb))
    | (have := H1; go_at_call 8; go_must (refine (HY1.out _ H1.out.b).mono ?_; rintro e w2 ⟨rfl, hb⟩; have H2 := hid (H1.out.keep hb); clear hb))
    | (have := H0; go_at_call 7; go_must (refine (wlives_any _).mono ?_; rintro e w1 ⟨rfl, hb⟩; have H1 := hid (H0.out.keep hb); clear hb))
    | (have := H3; refine wl_loadA rfl 34 _ rfl w.heap.size 0 rfl (msA m a13 a14 a15 a16 c13 c14 c15 c16) 34 H3.out.x _ Try.underlying34 rfl (by kernel_rfl) X HX.out rfl ?_)
    | (have := H3; refine wl_loadA rfl 34 _ rfl (w.heap.size + 1) 0 rfl (msA n b13 b14 b15 b16 d13 d14 d15 d16) 34 H3.out.y _ Try.underlying34 rfl (by kernel_rfl) Z HZ.out rfl ?_)
    | (have := H2; refine wl_loadA rfl 34 _ rfl w.heap.size 0 rfl (msA m a13 a14 a15 a16 c13 c14 c15 c16) 34 H2.out.x _ Try.underlying34 rfl (by kernel_rfl) X HX.out rfl ?_)
    | (have := H2; refine wl_loadA rfl 34 _ rfl (w.heap.size + 1) 0 rfl (msA n b13 b14 b15 b16 d13 d14 d15 d16) 34 H2.out.y _ Try.underlying34 rfl (by kernel_rfl) Z HZ.out rfl ?_)
    | (have := H1; refine wl_loadA rfl 34 _ rfl w.heap.size 0 rfl (msA m a13 a14 a15 a16 c13 c14 c15 c16) 34 H1.out.x _ Try.underlying34 rfl (by kernel_rfl) X HX.out rfl ?_)
    | (have := H1; refine wl_loadA rfl 34 _ rfl (w.heap.size + 1) 0 rfl (msA n b13 b14 b15 b16 d13 d14 d15 d16) 34 H1.out.y _ Try.underlying34 rfl (by kernel_rfl) Z HZ.out rfl ?_))
  go_ret
  exact ⟨by simp, H3.out.b⟩
set_option maxRecDepth 100000 in
set_option maxHeartbeats 6400000 in
theorem wun_3 {F G : Nat → Prop} (m n : Ms) (a13 a14 a15 a16 b13 b14 b15 b16 : Option Addr) (c13 c14 c15 c16 d13 d14 d15 d16 : Nat) (w : World) (hB : MsB m) (hC : MsB n) (hL : MsL F w m (.slice a13 m.nx.length c13) (.slice a14 m.sg.length c14) (.slice a15 m.cg.length c15) (.slice a16 m.ln.length c16)) (hR : MsL G w n (.slice b13 n.nx.length d13) (.slice b14 n.sg.length d14) (.slice b15 n.cg.length d15) (.slice b16 n.ln.length d16)) (s t : ByteArray) (hs : byT m = s) (ht : byT n = t) (k0 : byE m = 0) (k1 : byE n = 0) (Rb : Bool) (hsm : sameMs m n = Rb) (_hRb : (s.toList == t.toList) = Rb) :
    Calls Try.prog 5 #[.agg (msA m a13 a14 a15 a16 c13 c14 c15 c16).toArray, .agg (msA n b13 b14 b15 b16 d13 d14 d15 d16).toArray] w fun e w' => e = .returned (.bool true) ∧ Below w.heap.size w w' := by
  obtain ⟨W, HA, hm⟩ := ms2_new m n a13 a14 a15 a16 b13 b14 b15 b16 c13 c14 c15 c16 d13 d14 d15 d16 w
  have H0 := hid hm
  clear hm
  obtain ⟨X, eX⟩ : ∃ X, X = Value.agg (msA m a13 a14 a15 a16 c13 c14 c15 c16).toArray := ⟨_, rfl⟩
  obtain ⟨Z, eZ⟩ : ∃ Z, Z = Value.agg (msA n b13 b14 b15 b16 d13 d14 d15 d16).toArray := ⟨_, rfl⟩
  have HX := hid eX
  have HZ := hid eZ
  have HY1 := hid (show Tst w 8 #[X] (.tuple #[.string s, .int .i64 0]) from fun u hu => by rw [eX]; have := ibytes_any m hB a13 a14 a15 a16 c13 c14 c15 c16 u (hL.under hu); rw [k0, hs] at this; exact this)
  have HY2 := hid (show Tst w 8 #[Z] (.tuple #[.string t, .int .i64 0]) from fun u hu => by rw [eZ]; have := ibytes_any n hC b13 b14 b15 b16 d13 d14 d15 d16 u (hR.under hu); rw [k1, ht] at this; exact this)
  have HS := hid (show Tst w 10 #[X, Z] (.bool Rb) from fun u hu => by have := wsameMs_any (F := F) (G := G) m n a13 a14 a15 a16 b13 b14 b15 b16 c13 c14 c15 c16 d13 d14 d15 d16 u hB.n hC.n (hL.under hu) (hR.under hu); rwa [hsm, ← eX, ← eZ] at this)
  clear k0 k1 hs ht hsm
  clear hB hC hL hR
  unfold msA
  simp only [msA] at HA eX eZ
  replace HA := hid HA
  go_enter Try.func5, Try.ntmps5
  try simp only [List.append]
  go_upto_region 1 with fail
  rw [HA.out, ← eX, ← eZ]
  clear eX eZ
  go_wp2_with (first
    | (go_at_call 10; go_must (refine (HS.out _ H3.out.b).mono ?_; rintro e w4 ⟨rfl, hb⟩; have H4 := hid (H3.out.keep hb); clear hb))
    | (have := H2; go_at_call 8; go_must (refine (HY2.out _ H2.out.b).mono ?_; rintro e w3 ⟨rfl, hb⟩; have H3 := hid (H2.out.keep hb); clear hb))
    | (have := H1; go_at_call 8; go_must (refine (HY1.out _ H1.out.b).mono ?_; rintro e w2 ⟨rfl, hb⟩; have H2 := hid (H1.out.keep hb); clear hb))
    | (have := H0; go_at_call 7; go_must (refine (wlives_any _).mono ?_; rintro e w1 ⟨rfl, hb⟩; have H1 := hid (H0.out.keep hb); clear hb))
    | (have := H3; refine wl_loadA rfl 34 _ rfl w.heap.size 0 rfl (msA m a13 a14 a15 a16 c13 c14 c15 c16) 34 H3.out.x _ Try.underlying34 rfl (by kernel_rfl) X HX.out rfl ?_)
    | (have := H3; refine wl_loadA rfl 34 _ rfl (w.heap.size + 1) 0 rfl (msA n b13 b14 b15 b16 d13 d14 d15 d16) 34 H3.out.y _ Try.underlying34 rfl (by kernel_rfl) Z HZ.out rfl ?_)
    | (have := H2; refine wl_loadA rfl 34 _ rfl w.heap.size 0 rfl (msA m a13 a14 a15 a16 c13 c14 c15 c16) 34 H2.out.x _ Try.underlying34 rfl (by kernel_rfl) X HX.out rfl ?_)
    | (have := H2; refine wl_loadA rfl 34 _ rfl (w.heap.size + 1) 0 rfl (msA n b13 b14 b15 b16 d13 d14 d15 d16) 34 H2.out.y _ Try.underlying34 rfl (by kernel_rfl) Z HZ.out rfl ?_)
    | (have := H1; refine wl_loadA rfl 34 _ rfl w.heap.size 0 rfl (msA m a13 a14 a15 a16 c13 c14 c15 c16) 34 H1.out.x _ Try.underlying34 rfl (by kernel_rfl) X HX.out rfl ?_)
    | (have := H1; refine wl_loadA rfl 34 _ rfl (w.heap.size + 1) 0 rfl (msA n b13 b14 b15 b16 d13 d14 d15 d16) 34 H1.out.y _ Try.underlying34 rfl (by kernel_rfl) Z HZ.out rfl ?_))
  go_ret
  exact ⟨by simp, H4.out.b⟩
theorem wunlike_any {F G : Nat → Prop} (m n : Ms) (a13 a14 a15 a16 b13 b14 b15 b16 : Option Addr) (c13 c14 c15 c16 d13 d14 d15 d16 : Nat) (w : World) (hB : MsB m) (hC : MsB n) (hL : MsL F w m (.slice a13 m.nx.length c13) (.slice a14 m.sg.length c14) (.slice a15 m.cg.length c15) (.slice a16 m.ln.length c16)) (hR : MsL G w n (.slice b13 n.nx.length d13) (.slice b14 n.sg.length d14) (.slice b15 n.cg.length d15) (.slice b16 n.ln.length d16)) :
    Calls Try.prog 5 #[.agg (msA m a13 a14 a15 a16 c13 c14 c15 c16).toArray, .agg (msA n b13 b14 b15 b16 d13 d14 d15 d16).toArray] w fun e w' => e = .returned (.bool true) ∧ Below w.heap.size w w' := by
  by_cases h1 : byE m = 0
  · by_cases h2 : byE n = 0
    · refine wun_3 m n a13 a14 a15 a16 b13 b14 b15 b16 c13 c14 c15 c16 d13 d14 d15 d16 w hB hC hL hR _ _ rfl rfl h1 h2 _ rfl ?_
      by_cases he : byT m = byT n
      · rw [(told_eq hB hC h1 h2).1 he, he]; simp
      · have : sameMs m n = false := by
          cases hs : sameMs m n with
          | false => rfl
          | true => exact absurd ((told_eq hB hC h1 h2).2 hs) he
        rw [this]
        exact text_neS he
    · exact wun_2 m n a13 a14 a15 a16 b13 b14 b15 b16 c13 c14 c15 c16 d13 d14 d15 d16 w hB hC hL hR _ rfl h2 h1
  · exact wun_1 m n a13 a14 a15 a16 b13 b14 b15 b16 c13 c14 c15 c16 d13 d14 d15 d16 w hB hC hL hR _ rfl h1
end Go.Proofs.Ytfjcpghepkmbfaa
