/- The law: no beginning of a message's bytes is a message's, nor are they with more behind. -/
import Derived.Test.YtepcdbmdfpaomaaWvAM
namespace Go.Proofs.Ytepcdbmdfpaomaa
open Go.RowKit

/-- Read, as a law sees it that does not look at the message. -/
theorem iread_err (t : ByteArray) (E : Int) (hE : rdEr t = E) (u : World) : Calls Try.prog 9 #[.string t] u fun e w' => (∃ v cs, e = .returned (.tuple #[v, .int .i64 E]) ∧ v = .agg cs ∧ cs.size = 17 ∧ cs.all (·.oneCell') = true) ∧ Below u.heap.size u w' := by
  refine (iread_any t u).mono ?_
  rintro e w' ⟨⟨v, rfl, a13, c13, a14, c14, a15, c15, a16, c16, rfl, _⟩, hb⟩
  exact ⟨⟨_, _, by rw [hE], rfl, rfl, by simp [Value.oneCell']⟩, hb⟩
theorem msL_pos (m : Ms) : 1 ≤ (msL m).length := by
  rw [msL, List.length_append, be_len]; omega
theorem cut_err {m : Ms} (h : fitB m = true) (hb : MsB m) (hl : (msL m).length ≤ 65536) (k : Nat) (hk : k < (msL m).length) : rdEr ((⟨(msL m).toArray⟩ : ByteArray).extract 0 k) = 5 := by
  have hd : ((⟨(msL m).toArray⟩ : ByteArray).extract 0 k).data.toList = (msL m).take k := by simp
  have hs : ((⟨(msL m).toArray⟩ : ByteArray).extract 0 k).size = k := by rw [← data_len, hd, List.length_take]; omega
  rw [rdEr, if_neg (by omega), if_pos (whole_cut h hb.r hl _ k hk hd)]
theorem more_err {m : Ms} (h : fitB m = true) (hb : MsB m) (hl : (msL m).length ≤ 65536) (more : ByteArray) : rdEr ((⟨(msL m).toArray⟩ : ByteArray) ++ more) = (if more.size = 0 then 0 else if 65536 < (msL m).length + more.size then 3 else 5) := by
  have hd : ((⟨(msL m).toArray⟩ : ByteArray) ++ more).data.toList = msL m ++ more.data.toList := by simp
  have hs : ((⟨(msL m).toArray⟩ : ByteArray) ++ more).size = (msL m).length + more.size := by rw [← data_len, hd, List.length_append, data_len]
  by_cases h0 : more.size = 0
  · rw [if_pos h0]
    have he : ((⟨(msL m).toArray⟩ : ByteArray) ++ more) = ⟨(msL m).toArray⟩ := bytes_eq (by rw [hd, List.eq_nil_of_length_eq_zero ((data_len more).trans h0)]; simp)
    rw [he]
    exact (told_read h hb hl).1
  · rw [if_neg h0, rdEr, hs]
    by_cases h1 : 65536 < (msL m).length + more.size
    · rw [if_pos h1, if_pos h1]
    · rw [if_neg h1, if_neg h1, if_pos (whole_more h hb.r hl _ more hd h0)]
set_option maxRecDepth 100000 in
set_option maxHeartbeats 6400000 in
theorem wwhole_no {F : Nat → Prop} (m : Ms) (hB : MsB m) (a13 a14 a15 a16 : Option Addr) (c13 c14 c15 c16 : Nat) (cut : Int) (more : ByteArray) (w : World) (hL : MsL F w m (.slice a13 m.nx.length c13) (.slice a14 m.sg.length c14) (.slice a15 m.cg.length c15) (.slice a16 m.ln.length c16)) (he : byE m ≠ 0) :
    Calls Try.prog 4 #[.agg #[.int .i64 m.k, .int .i64 m.ep, .int .i64 m.v, .int .i64 m.sl, .int .i64 m.rq.c, .int .i64 m.rq.st, .int .i64 m.rq.k, .string m.rq.key, .float .f64 m.rq.b, .int .i64 m.rq.id, .int .i64 m.rs.1, .float .f64 m.rs.2, .string m.tx, .slice a13 m.nx.length c13, .slice a14 m.sg.length c14, .slice a15 m.cg.length c15, .slice a16 m.ln.length c16], .int .i64 cut, .string more] w fun e w' => e = .returned (.bool true) ∧ Below w.heap.size w w' := by
  have H0 : Hid (BxAt (w.alloc (.cells #[.int .i64 m.k, .int .i64 m.ep, .int .i64 m.v, .int .i64 m.sl, .int .i64 m.rq.c, .int .i64 m.rq.st, .int .i64 m.rq.k, .string m.rq.key, .float .f64 m.rq.b, .int .i64 m.rq.id, .int .i64 m.rs.1, .float .f64 m.rs.2, .string m.tx, .slice a13 m.nx.length c13, .slice a14 m.sg.length c14, .slice a15 m.cg.length c15, .slice a16 m.ln.length c16] 34)) w.heap.size [.int .i64 m.k, .int .i64 m.ep, .int .i64 m.v, .int .i64 m.sl, .int .i64 m.rq.c, .int .i64 m.rq.st, .int .i64 m.rq.k, .string m.rq.key, .float .f64 m.rq.b, .int .i64 m.rq.id, .int .i64 m.rs.1, .float .f64 m.rs.2, .string m.tx, .slice a13 m.nx.length c13, .slice a14 m.sg.length c14, .slice a15 m.cg.length c15, .slice a16 m.ln.length c16] 34 ∧ Below w.heap.size w (w.alloc (.cells #[.int .i64 m.k, .int .i64 m.ep, .int .i64 m.v, .int .i64 m.sl, .int .i64 m.rq.c, .int .i64 m.rq.st, .int .i64 m.rq.k, .string m.rq.key, .float .f64 m.rq.b, .int .i64 m.rq.id, .int .i64 m.rs.1, .float .f64 m.rs.2, .string m.tx, .slice a13 m.nx.length c13, .slice a14 m.sg.length c14, .slice a15 m.cg.length c15, .slice a16 m.ln.length c16] 34))) := hid ⟨heap_alloc_last w _, (Below.refl w.heap.size w).alloc (Nat.le_refl _) _⟩
  have HBy : Hid (∀ u : World, Below w.heap.size w u → Calls Try.prog 8 #[.agg #[.int .i64 m.k, .int .i64 m.ep, .int .i64 m.v, .int .i64 m.sl, .int .i64 m.rq.c, .int .i64 m.rq.st, .int .i64 m.rq.k, .string m.rq.key, .float .f64 m.rq.b, .int .i64 m.rq.id, .int .i64 m.rs.1, .float .f64 m.rs.2, .string m.tx, .slice a13 m.nx.length c13, .slice a14 m.sg.length c14, .slice a15 m.cg.length c15, .slice a16 m.ln.length c16]] u fun e w' => e = .returned (.tuple #[.string ⟨#[]⟩, .int .i64 (byE m)]) ∧ Below u.heap.size u w') := hid (fun u hu => by
    have := ibytes_any m hB a13 a14 a15 a16 c13 c14 c15 c16 u (hL.under hu)
    rw [show byT m = ⟨#[]⟩ by rw [byT, if_neg he]] at this
    exact this)
  have hne : (byE m != 0) = true := by simpa using he
  generalize byE m = E at HBy hne
  clear he hL hB
  go_enter Try.func4, Try.ntmps4
  try simp only [List.append]
  go_wp2_with (first
    | (go_at_call 7; refine (wlives_any _).mono ?_; rintro e w1 ⟨rfl, hb⟩; have H1 := hid (And.intro (H0.out.1.keep hb) (H0.out.2.trans (hb.mono H0.out.2.size))); clear hb; have y0 := H1.out.1.cell 0 _ rfl; have y1 := H1.out.1.cell 1 _ rfl; have y2 := H1.out.1.cell 2 _ rfl; have y3 := H1.out.1.cell 3 _ rfl; have y4 := H1.out.1.cell 4 _ rfl; have y5 := H1.out.1.cell 5 _ rfl; have y6 := H1.out.1.cell 6 _ rfl; have y7 := H1.out.1.cell 7 _ rfl; have y8 := H1.out.1.cell 8 _ rfl; have y9 := H1.out.1.cell 9 _ rfl; have y10 := H1.out.1.cell 10 _ rfl; have y11 := H1.out.1.cell 11 _ rfl; have y12 := H1.out.1.cell 12 _ rfl; have y13 := H1.out.1.cell 13 _ rfl; have y14 := H1.out.1.cell 14 _ rfl; have y15 := H1.out.1.cell 15 _ rfl; have y16 := H1.out.1.cell 16 _ rfl)
    | (go_at_call 8; refine (HBy.out _ H1.out.2).mono ?_; rintro e w2 ⟨rfl, hb⟩; have H2 := hid (H1.out.2.trans (hb.mono H1.out.2.size)); clear hb y0 y1 y2 y3 y4 y5 y6 y7 y8 y9 y10 y11 y12 y13 y14 y15 y16))
  go_ret
  exact ⟨rfl, H2.out⟩
set_option maxRecDepth 100000 in
set_option maxHeartbeats 6400000 in
theorem wwhole_zero {F : Nat → Prop} (m : Ms) (hB : MsB m) (a13 a14 a15 a16 : Option Addr) (c13 c14 c15 c16 : Nat) (cut : Int) (more : ByteArray) (hmo : more.size ≤ 1048576) (w : World) (hL : MsL F w m (.slice a13 m.nx.length c13) (.slice a14 m.sg.length c14) (.slice a15 m.cg.length c15) (.slice a16 m.ln.length c16)) (hf : fitB m = true) (hl : (msL m).length ≤ 65536) (hz : more.size = 0) :
    Calls Try.prog 4 #[.agg #[.int .i64 m.k, .int .i64 m.ep, .int .i64 m.v, .int .i64 m.sl, .int .i64 m.rq.c, .int .i64 m.rq.st, .int .i64 m.rq.k, .string m.rq.key, .float .f64 m.rq.b, .int .i64 m.rq.id, .int .i64 m.rs.1, .float .f64 m.rs.2, .string m.tx, .slice a13 m.nx.length c13, .slice a14 m.sg.length c14, .slice a15 m.cg.length c15, .slice a16 m.ln.length c16], .int .i64 cut, .string more] w fun e w' => e = .returned (.bool true) ∧ Below w.heap.size w w' := by
  have H0 : Hid (BxAt (w.alloc (.cells #[.int .i64 m.k, .int .i64 m.ep, .int .i64 m.v, .int .i64 m.sl, .int .i64 m.rq.c, .int .i64 m.rq.st, .int .i64 m.rq.k, .string m.rq.key, .float .f64 m.rq.b, .int .i64 m.rq.id, .int .i64 m.rs.1, .float .f64 m.rs.2, .string m.tx, .slice a13 m.nx.length c13, .slice a14 m.sg.length c14, .slice a15 m.cg.length c15, .slice a16 m.ln.length c16] 34)) w.heap.size [.int .i64 m.k, .int .i64 m.ep, .int .i64 m.v, .int .i64 m.sl, .int .i64 m.rq.c, .int .i64 m.rq.st, .int .i64 m.rq.k, .string m.rq.key, .float .f64 m.rq.b, .int .i64 m.rq.id, .int .i64 m.rs.1, .float .f64 m.rs.2, .string m.tx, .slice a13 m.nx.length c13, .slice a14 m.sg.length c14, .slice a15 m.cg.length c15, .slice a16 m.ln.length c16] 34 ∧ Below w.heap.size w (w.alloc (.cells #[.int .i64 m.k, .int .i64 m.ep, .int .i64 m.v, .int .i64 m.sl, .int .i64 m.rq.c, .int .i64 m.rq.st, .int .i64 m.rq.k, .string m.rq.key, .float .f64 m.rq.b, .int .i64 m.rq.id, .int .i64 m.rs.1, .float .f64 m.rs.2, .string m.tx, .slice a13 m.nx.length c13, .slice a14 m.sg.length c14, .slice a15 m.cg.length c15, .slice a16 m.ln.length c16] 34))) := hid ⟨heap_alloc_last w _, (Below.refl w.heap.size w).alloc (Nat.le_refl _) _⟩
  have _ := hmo
  obtain ⟨t, et⟩ : ∃ t : ByteArray, t = ⟨(msL m).toArray⟩ := ⟨_, rfl⟩
  obtain ⟨n, en⟩ : ∃ n : Nat, n = (msL m).length := ⟨_, rfl⟩
  have htn : t.size = n := by rw [et, en, told_size]
  have HBy : Hid (∀ u : World, Below w.heap.size w u → Calls Try.prog 8 #[.agg #[.int .i64 m.k, .int .i64 m.ep, .int .i64 m.v, .int .i64 m.sl, .int .i64 m.rq.c, .int .i64 m.rq.st, .int .i64 m.rq.k, .string m.rq.key, .float .f64 m.rq.b, .int .i64 m.rq.id, .int .i64 m.rs.1, .float .f64 m.rs.2, .string m.tx, .slice a13 m.nx.length c13, .slice a14 m.sg.length c14, .slice a15 m.cg.length c15, .slice a16 m.ln.length c16]] u fun e w' => e = .returned (.tuple #[.string t, .int .i64 0]) ∧ Below u.heap.size u w') := hid (fun u hu => by
    have := ibytes_any m hB a13 a14 a15 a16 c13 c14 c15 c16 u (hL.under hu)
    rw [(byE_ok hf hl).1, (byE_ok hf hl).2, ← et] at this
    exact this)
  have HR1 : Hid (∀ k, k < n → ∀ u : World, Calls Try.prog 9 #[.string (t.extract 0 k)] u fun e w' => (∃ v cs, e = .returned (.tuple #[v, .int .i64 5]) ∧ v = .agg cs ∧ cs.size = 17 ∧ cs.all (·.oneCell') = true) ∧ Below u.heap.size u w') := hid (fun k hk u => iread_err _ 5 (by rw [et]; exact cut_err hf hB hl k (by omega)) u)
  have HR2 : Hid (∀ u : World, Calls Try.prog 9 #[.string (t ++ more)] u fun e w' => (∃ v cs, e = .returned (.tuple #[v, .int .i64 0]) ∧ v = .agg cs ∧ cs.size = 17 ∧ cs.all (·.oneCell') = true) ∧ Below u.heap.size u w') := hid (fun u => iread_err _ 0 (by rw [et, more_err hf hB hl]; rw [if_pos hz]) u)
  have hn1 : 1 ≤ n := by rw [en]; exact msL_pos m
  have hn2 : n ≤ 65536 := by omega
  obtain ⟨kk, hk1, hk2⟩ : ∃ kk : Nat, kk < n ∧ wrap64 ((IntKind.u64.wrap cut).tmod (n : Int)) = (kk : Int) := by
    have hu : 0 ≤ IntKind.u64.wrap cut := by rw [IntKind.wrap_u64]; omega
    have h1 : (IntKind.u64.wrap cut).tmod (n : Int) = (IntKind.u64.wrap cut) % (n : Int) := Int.tmod_eq_emod_of_nonneg hu
    have h2 := Int.emod_nonneg (IntKind.u64.wrap cut) (b := (n : Int)) (by omega)
    have h3 := Int.emod_lt_of_pos (IntKind.u64.wrap cut) (b := (n : Int)) (by omega)
    rw [h1]
    generalize (IntKind.u64.wrap cut) % (n : Int) = x at h2 h3 ⊢
    refine ⟨x.toNat, by omega, ?_⟩
    unfold wrap64
    omega
  have HK := hid hk1
  have hk3 : (0 : Int) ≤ (kk : Int) := Int.natCast_nonneg _
  have hk4 : (kk : Int) ≤ (n : Int) := by omega
  have hn0 : ((n : Int) == 0) = false := by rw [beq_eq_false_iff_ne]; omega
  have ht := none_size more
  rw [decide_eq_true hz] at ht
  clear hk1 et en hf hl hL hB
  go_enter Try.func4, Try.ntmps4
  try simp only [List.append]
  go_wp2_with (first
    | (have := H5; refine wl_store_blk rfl 34 _ _ rfl w5.heap.size 0 rfl _ HV5.out.1 [.int .i64 0, .int .i64 0, .int .i64 0, .int .i64 0, .int .i64 0, .int .i64 0, .int .i64 0, .string ⟨#[]⟩, .float .f64 0, .int .i64 0, .int .i64 0, .float .f64 0, .string ⟨#[]⟩, .slice none 0 0, .slice none 0 0, .slice none 0 0, .slice none 0 0] 34 (heap_alloc_last w5 _) (by rw [HV5.out.2.1]; simp) (by rw [HV5.out.2.1]; kernel_rfl) HV5.out.2.2 ?_; intro w6 Hz; have H5s := hid (Hz.out.2.below (H5.out.trans ((Below.refl w.heap.size w5).alloc H5.out.size _)) H5.out.size); clear Hz)
    | (have := H3; refine wl_store_blk rfl 34 _ _ rfl w3.heap.size 0 rfl _ HV3.out.1 [.int .i64 0, .int .i64 0, .int .i64 0, .int .i64 0, .int .i64 0, .int .i64 0, .int .i64 0, .string ⟨#[]⟩, .float .f64 0, .int .i64 0, .int .i64 0, .float .f64 0, .string ⟨#[]⟩, .slice none 0 0, .slice none 0 0, .slice none 0 0, .slice none 0 0] 34 (heap_alloc_last w3 _) (by rw [HV3.out.2.1]; simp) (by rw [HV3.out.2.1]; kernel_rfl) HV3.out.2.2 ?_; intro w4 Hz; have H3s := hid (Hz.out.2.below (H3.out.trans ((Below.refl w.heap.size w3).alloc H3.out.size _)) H3.out.size); clear Hz)
    | (have := H3s; go_at_call 9; refine (HR2.out _).mono ?_; rintro e w5 ⟨⟨v5, cs5, rfl, q1, q2, q3⟩, hb⟩; have HV5 := hid (And.intro q1 (And.intro q2 q3)); have H5 := hid (H3s.out.trans (hb.mono H3s.out.size)); clear hb q1 q2 q3)
    | (go_at_call 9; refine (HR1.out kk HK.out _).mono ?_; rintro e w3 ⟨⟨v3, cs3, rfl, q1, q2, q3⟩, hb⟩; have HV3 := hid (And.intro q1 (And.intro q2 q3)); have H3 := hid (H2.out.trans (hb.mono H2.out.size)); clear hb q1 q2 q3)
    | (go_at_call 7; refine (wlives_any _).mono ?_; rintro e w1 ⟨rfl, hb⟩; have H1 := hid (And.intro (H0.out.1.keep hb) (H0.out.2.trans (hb.mono H0.out.2.size))); clear hb; have y0 := H1.out.1.cell 0 _ rfl; have y1 := H1.out.1.cell 1 _ rfl; have y2 := H1.out.1.cell 2 _ rfl; have y3 := H1.out.1.cell 3 _ rfl; have y4 := H1.out.1.cell 4 _ rfl; have y5 := H1.out.1.cell 5 _ rfl; have y6 := H1.out.1.cell 6 _ rfl; have y7 := H1.out.1.cell 7 _ rfl; have y8 := H1.out.1.cell 8 _ rfl; have y9 := H1.out.1.cell 9 _ rfl; have y10 := H1.out.1.cell 10 _ rfl; have y11 := H1.out.1.cell 11 _ rfl; have y12 := H1.out.1.cell 12 _ rfl; have y13 := H1.out.1.cell 13 _ rfl; have y14 := H1.out.1.cell 14 _ rfl; have y15 := H1.out.1.cell 15 _ rfl; have y16 := H1.out.1.cell 16 _ rfl)
    | (go_at_call 8; refine (HBy.out _ H1.out.2).mono ?_; rintro e w2 ⟨rfl, hb⟩; have H2 := hid (H1.out.2.trans (hb.mono H1.out.2.size)); clear hb y0 y1 y2 y3 y4 y5 y6 y7 y8 y9 y10 y11 y12 y13 y14 y15 y16))
  go_ret
  exact ⟨rfl, H5s.out⟩
set_option maxRecDepth 100000 in
set_option maxHeartbeats 6400000 in
theorem wwhole_long {F : Nat → Prop} (m : Ms) (hB : MsB m) (a13 a14 a15 a16 : Option Addr) (c13 c14 c15 c16 : Nat) (cut : Int) (more : ByteArray) (hmo : more.size ≤ 1048576) (w : World) (hL : MsL F w m (.slice a13 m.nx.length c13) (.slice a14 m.sg.length c14) (.slice a15 m.cg.length c15) (.slice a16 m.ln.length c16)) (hf : fitB m = true) (hl : (msL m).length ≤ 65536) (hz : more.size ≠ 0) (hg : 65536 < (msL m).length + more.size) :
    Calls Try.prog 4 #[.agg #[.int .i64 m.k, .int .i64 m.ep, .int .i64 m.v, .int .i64 m.sl, .int .i64 m.rq.c, .int .i64 m.rq.st, .int .i64 m.rq.k, .string m.rq.key, .float .f64 m.rq.b, .int .i64 m.rq.id, .int .i64 m.rs.1, .float .f64 m.rs.2, .string m.tx, .slice a13 m.nx.length c13, .slice a14 m.sg.length c14, .slice a15 m.cg.length c15, .slice a16 m.ln.length c16], .int .i64 cut, .string more] w fun e w' => e = .returned (.bool true) ∧ Below w.heap.size w w' := by
  have H0 : Hid (BxAt (w.alloc (.cells #[.int .i64 m.k, .int .i64 m.ep, .int .i64 m.v, .int .i64 m.sl, .int .i64 m.rq.c, .int .i64 m.rq.st, .int .i64 m.rq.k, .string m.rq.key, .float .f64 m.rq.b, .int .i64 m.rq.id, .int .i64 m.rs.1, .float .f64 m.rs.2, .string m.tx, .slice a13 m.nx.length c13, .slice a14 m.sg.length c14, .slice a15 m.cg.length c15, .slice a16 m.ln.length c16] 34)) w.heap.size [.int .i64 m.k, .int .i64 m.ep, .int .i64 m.v, .int .i64 m.sl, .int .i64 m.rq.c, .int .i64 m.rq.st, .int .i64 m.rq.k, .string m.rq.key, .float .f64 m.rq.b, .int .i64 m.rq.id, .int .i64 m.rs.1, .float .f64 m.rs.2, .string m.tx, .slice a13 m.nx.length c13, .slice a14 m.sg.length c14, .slice a15 m.cg.length c15, .slice a16 m.ln.length c16] 34 ∧ Below w.heap.size w (w.alloc (.cells #[.int .i64 m.k, .int .i64 m.ep, .int .i64 m.v, .int .i64 m.sl, .int .i64 m.rq.c, .int .i64 m.rq.st, .int .i64 m.rq.k, .string m.rq.key, .float .f64 m.rq.b, .int .i64 m.rq.id, .int .i64 m.rs.1, .float .f64 m.rs.2, .string m.tx, .slice a13 m.nx.length c13, .slice a14 m.sg.length c14, .slice a15 m.cg.length c15, .slice a16 m.ln.length c16] 34))) := hid ⟨heap_alloc_last w _, (Below.refl w.heap.size w).alloc (Nat.le_refl _) _⟩
  have _ := hmo
  obtain ⟨t, et⟩ : ∃ t : ByteArray, t = ⟨(msL m).toArray⟩ := ⟨_, rfl⟩
  obtain ⟨n, en⟩ : ∃ n : Nat, n = (msL m).length := ⟨_, rfl⟩
  have htn : t.size = n := by rw [et, en, told_size]
  have HBy : Hid (∀ u : World, Below w.heap.size w u → Calls Try.prog 8 #[.agg #[.int .i64 m.k, .int .i64 m.ep, .int .i64 m.v, .int .i64 m.sl, .int .i64 m.rq.c, .int .i64 m.rq.st, .int .i64 m.rq.k, .string m.rq.key, .float .f64 m.rq.b, .int .i64 m.rq.id, .int .i64 m.rs.1, .float .f64 m.rs.2, .string m.tx, .slice a13 m.nx.length c13, .slice a14 m.sg.length c14, .slice a15 m.cg.length c15, .slice a16 m.ln.length c16]] u fun e w' => e = .returned (.tuple #[.string t, .int .i64 0]) ∧ Below u.heap.size u w') := hid (fun u hu => by
    have := ibytes_any m hB a13 a14 a15 a16 c13 c14 c15 c16 u (hL.under hu)
    rw [(byE_ok hf hl).1, (byE_ok hf hl).2, ← et] at this
    exact this)
  have HR1 : Hid (∀ k, k < n → ∀ u : World, Calls Try.prog 9 #[.string (t.extract 0 k)] u fun e w' => (∃ v cs, e = .returned (.tuple #[v, .int .i64 5]) ∧ v = .agg cs ∧ cs.size = 17 ∧ cs.all (·.oneCell') = true) ∧ Below u.heap.size u w') := hid (fun k hk u => iread_err _ 5 (by rw [et]; exact cut_err hf hB hl k (by omega)) u)
  have HR2 : Hid (∀ u : World, Calls Try.prog 9 #[.string (t ++ more)] u fun e w' => (∃ v cs, e = .returned (.tuple #[v, .int .i64 3]) ∧ v = .agg cs ∧ cs.size = 17 ∧ cs.all (·.oneCell') = true) ∧ Below u.heap.size u w') := hid (fun u => iread_err _ 3 (by rw [et, more_err hf hB hl]; rw [if_neg hz, if_pos hg]) u)
  have hn1 : 1 ≤ n := by rw [en]; exact msL_pos m
  have hn2 : n ≤ 65536 := by omega
  obtain ⟨kk, hk1, hk2⟩ : ∃ kk : Nat, kk < n ∧ wrap64 ((IntKind.u64.wrap cut).tmod (n : Int)) = (kk : Int) := by
    have hu : 0 ≤ IntKind.u64.wrap cut := by rw [IntKind.wrap_u64]; omega
    have h1 : (IntKind.u64.wrap cut).tmod (n : Int) = (IntKind.u64.wrap cut) % (n : Int) := Int.tmod_eq_emod_of_nonneg hu
    have h2 := Int.emod_nonneg (IntKind.u64.wrap cut) (b := (n : Int)) (by omega)
    have h3 := Int.emod_lt_of_pos (IntKind.u64.wrap cut) (b := (n : Int)) (by omega)
    rw [h1]
    generalize (IntKind.u64.wrap cut) % (n : Int) = x at h2 h3 ⊢
    refine ⟨x.toNat, by omega, ?_⟩
    unfold wrap64
    omega
  have HK := hid hk1
  have hk3 : (0 : Int) ≤ (kk : Int) := Int.natCast_nonneg _
  have hk4 : (kk : Int) ≤ (n : Int) := by omega
  have hn0 : ((n : Int) == 0) = false := by rw [beq_eq_false_iff_ne]; omega
  have ht := none_size more
  rw [decide_eq_false hz] at ht
  have hg2 : (65536 : Int) < (n : Int) + (more.size : Int) := by omega
  clear hg
  clear hk1 et en hf hl hL hB
  go_enter Try.func4, Try.ntmps4
  try simp only [List.append]
  go_wp2_with (first
    | (have := H5; refine wl_store_blk rfl 34 _ _ rfl w5.heap.size 0 rfl _ HV5.out.1 [.int .i64 0, .int .i64 0, .int .i64 0, .int .i64 0, .int .i64 0, .int .i64 0, .int .i64 0, .string ⟨#[]⟩, .float .f64 0, .int .i64 0, .int .i64 0, .float .f64 0, .string ⟨#[]⟩, .slice none 0 0, .slice none 0 0, .slice none 0 0, .slice none 0 0] 34 (heap_alloc_last w5 _) (by rw [HV5.out.2.1]; simp) (by rw [HV5.out.2.1]; kernel_rfl) HV5.out.2.2 ?_; intro w6 Hz; have H5s := hid (Hz.out.2.below (H5.out.trans ((Below.refl w.heap.size w5).alloc H5.out.size _)) H5.out.size); clear Hz)
    | (have := H3; refine wl_store_blk rfl 34 _ _ rfl w3.heap.size 0 rfl _ HV3.out.1 [.int .i64 0, .int .i64 0, .int .i64 0, .int .i64 0, .int .i64 0, .int .i64 0, .int .i64 0, .string ⟨#[]⟩, .float .f64 0, .int .i64 0, .int .i64 0, .float .f64 0, .string ⟨#[]⟩, .slice none 0 0, .slice none 0 0, .slice none 0 0, .slice none 0 0] 34 (heap_alloc_last w3 _) (by rw [HV3.out.2.1]; simp) (by rw [HV3.out.2.1]; kernel_rfl) HV3.out.2.2 ?_; intro w4 Hz; have H3s := hid (Hz.out.2.below (H3.out.trans ((Below.refl w.heap.size w3).alloc H3.out.size _)) H3.out.size); clear Hz)
    | (have := H3s; go_at_call 9; refine (HR2.out _).mono ?_; rintro e w5 ⟨⟨v5, cs5, rfl, q1, q2, q3⟩, hb⟩; have HV5 := hid (And.intro q1 (And.intro q2 q3)); have H5 := hid (H3s.out.trans (hb.mono H3s.out.size)); clear hb q1 q2 q3)
    | (go_at_call 9; refine (HR1.out kk HK.out _).mono ?_; rintro e w3 ⟨⟨v3, cs3, rfl, q1, q2, q3⟩, hb⟩; have HV3 := hid (And.intro q1 (And.intro q2 q3)); have H3 := hid (H2.out.trans (hb.mono H2.out.size)); clear hb q1 q2 q3)
    | (go_at_call 7; refine (wlives_any _).mono ?_; rintro e w1 ⟨rfl, hb⟩; have H1 := hid (And.intro (H0.out.1.keep hb) (H0.out.2.trans (hb.mono H0.out.2.size))); clear hb; have y0 := H1.out.1.cell 0 _ rfl; have y1 := H1.out.1.cell 1 _ rfl; have y2 := H1.out.1.cell 2 _ rfl; have y3 := H1.out.1.cell 3 _ rfl; have y4 := H1.out.1.cell 4 _ rfl; have y5 := H1.out.1.cell 5 _ rfl; have y6 := H1.out.1.cell 6 _ rfl; have y7 := H1.out.1.cell 7 _ rfl; have y8 := H1.out.1.cell 8 _ rfl; have y9 := H1.out.1.cell 9 _ rfl; have y10 := H1.out.1.cell 10 _ rfl; have y11 := H1.out.1.cell 11 _ rfl; have y12 := H1.out.1.cell 12 _ rfl; have y13 := H1.out.1.cell 13 _ rfl; have y14 := H1.out.1.cell 14 _ rfl; have y15 := H1.out.1.cell 15 _ rfl; have y16 := H1.out.1.cell 16 _ rfl)
    | (go_at_call 8; refine (HBy.out _ H1.out.2).mono ?_; rintro e w2 ⟨rfl, hb⟩; have H2 := hid (H1.out.2.trans (hb.mono H1.out.2.size)); clear hb y0 y1 y2 y3 y4 y5 y6 y7 y8 y9 y10 y11 y12 y13 y14 y15 y16))
  go_ret
  exact ⟨rfl, H5s.out⟩
set_option maxRecDepth 100000 in
set_option maxHeartbeats 6400000 in
theorem wwhole_mid {F : Nat → Prop} (m : Ms) (hB : MsB m) (a13 a14 a15 a16 : Option Addr) (c13 c14 c15 c16 : Nat) (cut : Int) (more : ByteArray) (hmo : more.size ≤ 1048576) (w : World) (hL : MsL F w m (.slice a13 m.nx.length c13) (.slice a14 m.sg.length c14) (.slice a15 m.cg.length c15) (.slice a16 m.ln.length c16)) (hf : fitB m = true) (hl : (msL m).length ≤ 65536) (hz : more.size ≠ 0) (hg : ¬ 65536 < (msL m).length + more.size) :
    Calls Try.prog 4 #[.agg #[.int .i64 m.k, .int .i64 m.ep, .int .i64 m.v, .int .i64 m.sl, .int .i64 m.rq.c, .int .i64 m.rq.st, .int .i64 m.rq.k, .string m.rq.key, .float .f64 m.rq.b, .int .i64 m.rq.id, .int .i64 m.rs.1, .float .f64 m.rs.2, .string m.tx, .slice a13 m.nx.length c13, .slice a14 m.sg.length c14, .slice a15 m.cg.length c15, .slice a16 m.ln.length c16], .int .i64 cut, .string more] w fun e w' => e = .returned (.bool true) ∧ Below w.heap.size w w' := by
  have H0 : Hid (BxAt (w.alloc (.cells #[.int .i64 m.k, .int .i64 m.ep, .int .i64 m.v, .int .i64 m.sl, .int .i64 m.rq.c, .int .i64 m.rq.st, .int .i64 m.rq.k, .string m.rq.key, .float .f64 m.rq.b, .int .i64 m.rq.id, .int .i64 m.rs.1, .float .f64 m.rs.2, .string m.tx, .slice a13 m.nx.length c13, .slice a14 m.sg.length c14, .slice a15 m.cg.length c15, .slice a16 m.ln.length c16] 34)) w.heap.size [.int .i64 m.k, .int .i64 m.ep, .int .i64 m.v, .int .i64 m.sl, .int .i64 m.rq.c, .int .i64 m.rq.st, .int .i64 m.rq.k, .string m.rq.key, .float .f64 m.rq.b, .int .i64 m.rq.id, .int .i64 m.rs.1, .float .f64 m.rs.2, .string m.tx, .slice a13 m.nx.length c13, .slice a14 m.sg.length c14, .slice a15 m.cg.length c15, .slice a16 m.ln.length c16] 34 ∧ Below w.heap.size w (w.alloc (.cells #[.int .i64 m.k, .int .i64 m.ep, .int .i64 m.v, .int .i64 m.sl, .int .i64 m.rq.c, .int .i64 m.rq.st, .int .i64 m.rq.k, .string m.rq.key, .float .f64 m.rq.b, .int .i64 m.rq.id, .int .i64 m.rs.1, .float .f64 m.rs.2, .string m.tx, .slice a13 m.nx.length c13, .slice a14 m.sg.length c14, .slice a15 m.cg.length c15, .slice a16 m.ln.length c16] 34))) := hid ⟨heap_alloc_last w _, (Below.refl w.heap.size w).alloc (Nat.le_refl _) _⟩
  have _ := hmo
  obtain ⟨t, et⟩ : ∃ t : ByteArray, t = ⟨(msL m).toArray⟩ := ⟨_, rfl⟩
  obtain ⟨n, en⟩ : ∃ n : Nat, n = (msL m).length := ⟨_, rfl⟩
  have htn : t.size = n := by rw [et, en, told_size]
  have HBy : Hid (∀ u : World, Below w.heap.size w u → Calls Try.prog 8 #[.agg #[.int .i64 m.k, .int .i64 m.ep, .int .i64 m.v, .int .i64 m.sl, .int .i64 m.rq.c, .int .i64 m.rq.st, .int .i64 m.rq.k, .string m.rq.key, .float .f64 m.rq.b, .int .i64 m.rq.id, .int .i64 m.rs.1, .float .f64 m.rs.2, .string m.tx, .slice a13 m.nx.length c13, .slice a14 m.sg.length c14, .slice a15 m.cg.length c15, .slice a16 m.ln.length c16]] u fun e w' => e = .returned (.tuple #[.string t, .int .i64 0]) ∧ Below u.heap.size u w') := hid (fun u hu => by
    have := ibytes_any m hB a13 a14 a15 a16 c13 c14 c15 c16 u (hL.under hu)
    rw [(byE_ok hf hl).1, (byE_ok hf hl).2, ← et] at this
    exact this)
  have HR1 : Hid (∀ k, k < n → ∀ u : World, Calls Try.prog 9 #[.string (t.extract 0 k)] u fun e w' => (∃ v cs, e = .returned (.tuple #[v, .int .i64 5]) ∧ v = .agg cs ∧ cs.size = 17 ∧ cs.all (·.oneCell') = true) ∧ Below u.heap.size u w') := hid (fun k hk u => iread_err _ 5 (by rw [et]; exact cut_err hf hB hl k (by omega)) u)
  have HR2 : Hid (∀ u : World, Calls Try.prog 9 #[.string (t ++ more)] u fun e w' => (∃ v cs, e = .returned (.tuple #[v, .int .i64 5]) ∧ v = .agg cs ∧ cs.size = 17 ∧ cs.all (·.oneCell') = true) ∧ Below u.heap.size u w') := hid (fun u => iread_err _ 5 (by rw [et, more_err hf hB hl]; rw [if_neg hz, if_neg hg]) u)
  have hn1 : 1 ≤ n := by rw [en]; exact msL_pos m
  have hn2 : n ≤ 65536 := by omega
  obtain ⟨kk, hk1, hk2⟩ : ∃ kk : Nat, kk < n ∧ wrap64 ((IntKind.u64.wrap cut).tmod (n : Int)) = (kk : Int) := by
    have hu : 0 ≤ IntKind.u64.wrap cut := by rw [IntKind.wrap_u64]; omega
    have h1 : (IntKind.u64.wrap cut).tmod (n : Int) = (IntKind.u64.wrap cut) % (n : Int) := Int.tmod_eq_emod_of_nonneg hu
    have h2 := Int.emod_nonneg (IntKind.u64.wrap cut) (b := (n : Int)) (by omega)
    have h3 := Int.emod_lt_of_pos (IntKind.u64.wrap cut) (b := (n : Int)) (by omega)
    rw [h1]
    generalize (IntKind.u64.wrap cut) % (n : Int) = x at h2 h3 ⊢
    refine ⟨x.toNat, by omega, ?_⟩
    unfold wrap64
    omega
  have HK := hid hk1
  have hk3 : (0 : Int) ≤ (kk : Int) := Int.natCast_nonneg _
  have hk4 : (kk : Int) ≤ (n : Int) := by omega
  have hn0 : ((n : Int) == 0) = false := by rw [beq_eq_false_iff_ne]; omega
  have ht := none_size more
  rw [decide_eq_false hz] at ht
  clear hg
  clear hk1 et en hf hl hL hB
  go_enter Try.func4, Try.ntmps4
  try simp only [List.append]
  go_wp2_with (first
    | (have := H5; refine wl_store_blk rfl 34 _ _ rfl w5.heap.size 0 rfl _ HV5.out.1 [.int .i64 0, .int .i64 0, .int .i64 0, .int .i64 0, .int .i64 0, .int .i64 0, .int .i64 0, .string ⟨#[]⟩, .float .f64 0, .int .i64 0, .int .i64 0, .float .f64 0, .string ⟨#[]⟩, .slice none 0 0, .slice none 0 0, .slice none 0 0, .slice none 0 0] 34 (heap_alloc_last w5 _) (by rw [HV5.out.2.1]; simp) (by rw [HV5.out.2.1]; kernel_rfl) HV5.out.2.2 ?_; intro w6 Hz; have H5s := hid (Hz.out.2.below (H5.out.trans ((Below.refl w.heap.size w5).alloc H5.out.size _)) H5.out.size); clear Hz)
    | (have := H3; refine wl_store_blk rfl 34 _ _ rfl w3.heap.size 0 rfl _ HV3.out.1 [.int .i64 0, .int .i64 0, .int .i64 0, .int .i64 0, .int .i64 0, .int .i64 0, .int .i64 0, .string ⟨#[]⟩, .float .f64 0, .int .i64 0, .int .i64 0, .float .f64 0, .string ⟨#[]⟩, .slice none 0 0, .slice none 0 0, .slice none 0 0, .slice none 0 0] 34 (heap_alloc_last w3 _) (by rw [HV3.out.2.1]; simp) (by rw [HV3.out.2.1]; kernel_rfl) HV3.out.2.2 ?_; intro w4 Hz; have H3s := hid (Hz.out.2.below (H3.out.trans ((Below.refl w.heap.size w3).alloc H3.out.size _)) H3.out.size); clear Hz)
    | (have := H3s; go_at_call 9; refine (HR2.out _).mono ?_; rintro e w5 ⟨⟨v5, cs5, rfl, q1, q2, q3⟩, hb⟩; have HV5 := hid (And.intro q1 (And.intro q2 q3)); have H5 := hid (H3s.out.trans (hb.mono H3s.out.size)); clear hb q1 q2 q3)
    | (go_at_call 9; refine (HR1.out kk HK.out _).mono ?_; rintro e w3 ⟨⟨v3, cs3, rfl, q1, q2, q3⟩, hb⟩; have HV3 := hid (And.intro q1 (And.intro q2 q3)); have H3 := hid (H2.out.trans (hb.mono H2.out.size)); clear hb q1 q2 q3)
    | (go_at_call 7; refine (wlives_any _).mono ?_; rintro e w1 ⟨rfl, hb⟩; have H1 := hid (And.intro (H0.out.1.keep hb) (H0.out.2.trans (hb.mono H0.out.2.size))); clear hb; have y0 := H1.out.1.cell 0 _ rfl; have y1 := H1.out.1.cell 1 _ rfl; have y2 := H1.out.1.cell 2 _ rfl; have y3 := H1.out.1.cell 3 _ rfl; have y4 := H1.out.1.cell 4 _ rfl; have y5 := H1.out.1.cell 5 _ rfl; have y6 := H1.out.1.cell 6 _ rfl; have y7 := H1.out.1.cell 7 _ rfl; have y8 := H1.out.1.cell 8 _ rfl; have y9 := H1.out.1.cell 9 _ rfl; have y10 := H1.out.1.cell 10 _ rfl; have y11 := H1.out.1.cell 11 _ rfl; have y12 := H1.out.1.cell 12 _ rfl; have y13 := H1.out.1.cell 13 _ rfl; have y14 := H1.out.1.cell 14 _ rfl; have y15 := H1.out.1.cell 15 _ rfl; have y16 := H1.out.1.cell 16 _ rfl)
    | (go_at_call 8; refine (HBy.out _ H1.out.2).mono ?_; rintro e w2 ⟨rfl, hb⟩; have H2 := hid (H1.out.2.trans (hb.mono H1.out.2.size)); clear hb y0 y1 y2 y3 y4 y5 y6 y7 y8 y9 y10 y11 y12 y13 y14 y15 y16))
  go_ret
  exact ⟨rfl, H5s.out⟩
theorem wwhole_any {F : Nat → Prop} (m : Ms) (hB : MsB m) (a13 a14 a15 a16 : Option Addr) (c13 c14 c15 c16 : Nat) (cut : Int) (more : ByteArray) (hmo : more.size ≤ 1048576) (w : World) (hL : MsL F w m (.slice a13 m.nx.length c13) (.slice a14 m.sg.length c14) (.slice a15 m.cg.length c15) (.slice a16 m.ln.length c16)) :
    Calls Try.prog 4 #[.agg #[.int .i64 m.k, .int .i64 m.ep, .int .i64 m.v, .int .i64 m.sl, .int .i64 m.rq.c, .int .i64 m.rq.st, .int .i64 m.rq.k, .string m.rq.key, .float .f64 m.rq.b, .int .i64 m.rq.id, .int .i64 m.rs.1, .float .f64 m.rs.2, .string m.tx, .slice a13 m.nx.length c13, .slice a14 m.sg.length c14, .slice a15 m.cg.length c15, .slice a16 m.ln.length c16], .int .i64 cut, .string more] w fun e w' => e = .returned (.bool true) ∧ Below w.heap.size w w' := by
  by_cases he : byE m = 0
  · have hf : fitB m = true := by
      cases h : fitB m with
      | true => rfl
      | false =>
        rw [byE] at he
        split at he
        · cases he
        · exact absurd he (by first | decide | (rw [if_pos h]; decide))
    have hl : (msL m).length ≤ 65536 := by
      rw [byE, if_neg (by rw [fit_kind hf]; decide), if_neg (by rw [hf]; decide)] at he
      split at he
      · cases he
      · omega
    by_cases hz : more.size = 0
    · exact wwhole_zero m hB a13 a14 a15 a16 c13 c14 c15 c16 cut more hmo w hL hf hl hz
    · by_cases hg : 65536 < (msL m).length + more.size
      · exact wwhole_long m hB a13 a14 a15 a16 c13 c14 c15 c16 cut more hmo w hL hf hl hz hg
      · exact wwhole_mid m hB a13 a14 a15 a16 c13 c14 c15 c16 cut more hmo w hL hf hl hz hg
  · exact wwhole_no m hB a13 a14 a15 a16 c13 c14 c15 c16 cut more w hL he
end Go.Proofs.Ytepcdbmdfpaomaa
