/- The program's parts of a message: requests, results, configurations. -/
import Derived.Test.YtepcdbmdfpaomaaWiVM
import Derived.Test.YtepcdbmdfpaomaaGa5
import Derived.Test.YtepcdbmdfpaomaaCoRM
namespace Go.Proofs.Ytepcdbmdfpaomaa
open Go.RowKit

theorem pT_sz {s t s' : ByteArray} (h : pT s = some (t, s')) : t.size ≤ 65535 := (inv_T.back s t s' h).1
theorem map_of {α β : Type} {d : α → Option β} {p : Ps α} {s s' : ByteArray} {x : α} (h : p s = some (x, s')) : pMap d p s = (d x).map fun y => (y, s') := by rw [pMap, h]; rfl
theorem map_no {α β : Type} {d : α → Option β} {p : Ps α} {s : ByteArray} (h : p s = none) : pMap d p s = none := by rw [pMap, h]; rfl
def vRq (r : Rq) (v : Value) (_ _ : World) : Prop := v = .agg #[.int .i64 r.c, .int .i64 r.st, .int .i64 r.k, .string r.key, .float .f64 r.b, .int .i64 r.id]
def vRs (x : Int × Nat) (v : Value) (_ _ : World) : Prop := v = .agg #[.int .i64 x.1, .float .f64 x.2]
def vCf (x : Int × List Int) (v : Value) (w w' : World) : Prop := ∃ v2, v = .agg #[.int .i64 x.1, v2] ∧ Reads (fun k => w.heap.size ≤ k) w' v2 (dInts x.2)
set_option maxRecDepth 100000 in
set_option maxHeartbeats 3200000 in
theorem iprequest_got (b : Nat) (s : ByteArray) (w : World) (h : RdAt w b s false) : Calls Try.prog 72 #[.agg #[.pointer (some ⟨b, 0, none⟩)]] w (Got pRq b s vRq w) := by
  have H0 := hid (pr_begin h [.int .i64 0, .int .i64 0, .int .i64 0, .string ⟨#[]⟩, .float .f64 0, .int .i64 0] 26)
  have y0 := H0.out.box.cell 0 _ rfl
  clear h
  go_enter Try.func72, Try.ntmps72
  go_wp2_with fail
  refine (iptext_got b s _ H0.out.rd).mono ?_
  rintro e w1 ⟨hk, hor⟩
  rcases hor with ⟨t, s1, v1, hp, rfl, rfl, hr⟩ | ⟨hp, rfl⟩
  rotate_left
  · have HX := hid (And.intro hp hk)
    clear hp hk
    go_wp2
    exact ⟨rfl, H0.out.kept.trans HX.out.2 (.inl rfl), .inr ⟨map_no HX.out.1, rfl⟩⟩
  have N1 := hid (H0.out.call hk hr)
  have HP1 := hid hp
  have hsz := pT_sz hp
  clear hk hr hp y0
  go_wp2_with fail
  refine (dread_any t (by omega) _).mono ?_
  rintro e w2 ⟨rfl, hb⟩
  have N2 := hid (N1.out.under hb)
  clear hb hsz
  by_cases he : rdE t = 0
  · have hd : (rdE t == 0) = true := by rw [he]; rfl
    have HE := hid he
    clear he
    go_wp2_with (first
      | (have := N4; refine wl_store_blk rfl 26 _ _ rfl (w.heap.size + 1) 0 rfl #[.int .i64 (rdR t).c, .int .i64 (rdR t).st, .int .i64 (rdR t).k, .string (rdR t).key, .float .f64 (rdR t).b, .int .i64 (rdR t).id] rfl [.int .i64 0, .int .i64 0, .int .i64 0, .string ⟨#[]⟩, .float .f64 0, .int .i64 0] 26 N4.out.1.res (by simp) (by kernel_rfl) (by simp [Value.oneCell']) ?_; intro w5 Hz; have N5 : Hid (PrAt b w w5 s1 [.int .i64 (rdR t).c, .int .i64 (rdR t).st, .int .i64 (rdR t).k, .string (rdR t).key, .float .f64 (rdR t).b, .int .i64 (rdR t).id] 26 ∧ One (w.heap.size + 1) w3 w5) := hid ⟨N4.out.1.ans Hz.out.2 Hz.out.1, Hz.out.2⟩; clear Hz)
      | (refine wl_store_blk rfl 26 _ _ rfl w2.heap.size 0 rfl #[.int .i64 (rdR t).c, .int .i64 (rdR t).st, .int .i64 (rdR t).k, .string (rdR t).key, .float .f64 (rdR t).b, .int .i64 (rdR t).id] rfl [.int .i64 0, .int .i64 0, .int .i64 0, .string ⟨#[]⟩, .float .f64 0, .int .i64 0] 26 (heap_alloc_last w2 _) (by simp) (by kernel_rfl) (by simp [Value.oneCell']) ?_; intro w3 Hz; have N4 : Hid (PrAt b w w3 s1 [.int .i64 0, .int .i64 0, .int .i64 0, .string ⟨#[]⟩, .float .f64 0, .int .i64 0] 26 ∧ BxAt w3 w2.heap.size [.int .i64 (rdR t).c, .int .i64 (rdR t).st, .int .i64 (rdR t).k, .string (rdR t).key, .float .f64 (rdR t).b, .int .i64 (rdR t).id] 26 ∧ Below w2.heap.size w2 w3) := hid (by have hb := Hz.out.2.below ((Below.refl w2.heap.size w2).alloc (Nat.le_refl _) _) (Nat.le_refl _); exact ⟨N2.out.under hb, Hz.out.1, hb⟩); clear Hz; have c0 := N4.out.2.1.cell 0 _ rfl; have c1 := N4.out.2.1.cell 1 _ rfl; have c2 := N4.out.2.1.cell 2 _ rfl; have c3 := N4.out.2.1.cell 3 _ rfl; have c4 := N4.out.2.1.cell 4 _ rfl; have c5 := N4.out.2.1.cell 5 _ rfl)
      | (go_at_call 49; refine (ineed_yes _).mono ?_; rintro e wz ⟨rfl, hw⟩; replace hw := hw.symm; subst hw))
    have x0 := N5.out.1.res.cell 0 _ rfl; have x1 := N5.out.1.res.cell 1 _ rfl; have x2 := N5.out.1.res.cell 2 _ rfl; have x3 := N5.out.1.res.cell 3 _ rfl; have x4 := N5.out.1.res.cell 4 _ rfl; have x5 := N5.out.1.res.cell 5 _ rfl
    refine bodyPost_ret (v := .agg #[.int .i64 (rdR t).c, .int .i64 (rdR t).st, .int .i64 (rdR t).k, .string (rdR t).key, .float .f64 (rdR t).b, .int .i64 (rdR t).id]) (by simp [results, Try.results72, go_sem, x0, x1, x2, x3, x4, x5]) rfl ?_
    refine ⟨N5.out.1.kept, .inl ⟨rdR t, s1, _, ?_, rfl, rfl, N5.out.1.rd⟩⟩
    have := HP1.out
    rw [pRq, map_of this, if_pos HE.out]
    rfl
  · have hd : (rdE t == 0) = false := by rw [beq_eq_false_iff_ne]; exact he
    have HE := hid he
    clear he
    go_wp2_with (first
      | (refine wl_store_blk rfl 26 _ _ rfl w2.heap.size 0 rfl #[.int .i64 (rdR t).c, .int .i64 (rdR t).st, .int .i64 (rdR t).k, .string (rdR t).key, .float .f64 (rdR t).b, .int .i64 (rdR t).id] rfl [.int .i64 0, .int .i64 0, .int .i64 0, .string ⟨#[]⟩, .float .f64 0, .int .i64 0] 26 (heap_alloc_last w2 _) (by simp) (by kernel_rfl) (by simp [Value.oneCell']) ?_; intro w3 Hz; have N4 : Hid (PrAt b w w3 s1 [.int .i64 0, .int .i64 0, .int .i64 0, .string ⟨#[]⟩, .float .f64 0, .int .i64 0] 26 ∧ True) := hid (by have hb := Hz.out.2.below ((Below.refl w2.heap.size w2).alloc (Nat.le_refl _) _) (Nat.le_refl _); exact ⟨N2.out.under hb, trivial⟩); clear Hz)
      | (go_at_call 49; refine (ineed_no _).mono ?_; rintro e wz ⟨rfl, hw⟩; replace hw := hw.symm; subst hw))
    exact ⟨rfl, N4.out.1.kept, .inr ⟨by have := HP1.out; rw [pRq, map_of this, if_neg HE.out]; rfl, rfl⟩⟩
set_option maxRecDepth 100000 in
set_option maxHeartbeats 3200000 in
theorem ipresult_got (b : Nat) (s : ByteArray) (w : World) (h : RdAt w b s false) : Calls Try.prog 73 #[.agg #[.pointer (some ⟨b, 0, none⟩)]] w (Got pRs b s vRs w) := by
  have H0 := hid (pr_begin h [.int .i64 0, .float .f64 0] 28)
  have y0 := H0.out.box.cell 0 _ rfl
  clear h
  go_enter Try.func73, Try.ntmps73
  go_wp2_with fail
  refine (iptext_got b s _ H0.out.rd).mono ?_
  rintro e w1 ⟨hk, hor⟩
  rcases hor with ⟨t, s1, v1, hp, rfl, rfl, hr⟩ | ⟨hp, rfl⟩
  rotate_left
  · have HX := hid (And.intro hp hk)
    clear hp hk
    go_wp2
    exact ⟨rfl, H0.out.kept.trans HX.out.2 (.inl rfl), .inr ⟨map_no HX.out.1, rfl⟩⟩
  have N1 := hid (H0.out.call hk hr)
  have HP1 := hid hp
  have hsz := pT_sz hp
  clear hk hr hp y0
  go_wp2_with fail
  refine (dreadResult_any t _).mono ?_
  rintro e w2 ⟨rfl, hb⟩
  have N2 := hid (N1.out.under hb)
  clear hb hsz
  by_cases he : rsR t = 0
  · have hd : (rsR t == 0) = true := by rw [he]; rfl
    have HE := hid he
    clear he
    go_wp2_with (first
      | (have := N4; refine wl_store_blk rfl 28 _ _ rfl (w.heap.size + 1) 0 rfl #[.int .i64 (rsC t), .float .f64 (rsF t)] rfl [.int .i64 0, .float .f64 0] 28 N4.out.1.res (by simp) (by kernel_rfl) (by simp [Value.oneCell']) ?_; intro w5 Hz; have N5 : Hid (PrAt b w w5 s1 [.int .i64 (rsC t), .float .f64 (rsF t)] 28 ∧ One (w.heap.size + 1) w3 w5) := hid ⟨N4.out.1.ans Hz.out.2 Hz.out.1, Hz.out.2⟩; clear Hz)
      | (refine wl_store_blk rfl 28 _ _ rfl w2.heap.size 0 rfl #[.int .i64 (rsC t), .float .f64 (rsF t)] rfl [.int .i64 0, .float .f64 0] 28 (heap_alloc_last w2 _) (by simp) (by kernel_rfl) (by simp [Value.oneCell']) ?_; intro w3 Hz; have N4 : Hid (PrAt b w w3 s1 [.int .i64 0, .float .f64 0] 28 ∧ BxAt w3 w2.heap.size [.int .i64 (rsC t), .float .f64 (rsF t)] 28 ∧ Below w2.heap.size w2 w3) := hid (by have hb := Hz.out.2.below ((Below.refl w2.heap.size w2).alloc (Nat.le_refl _) _) (Nat.le_refl _); exact ⟨N2.out.under hb, Hz.out.1, hb⟩); clear Hz; have c0 := N4.out.2.1.cell 0 _ rfl; have c1 := N4.out.2.1.cell 1 _ rfl)
      | (go_at_call 49; refine (ineed_yes _).mono ?_; rintro e wz ⟨rfl, hw⟩; replace hw := hw.symm; subst hw))
    have x0 := N5.out.1.res.cell 0 _ rfl; have x1 := N5.out.1.res.cell 1 _ rfl
    refine bodyPost_ret (v := .agg #[.int .i64 (rsC t), .float .f64 (rsF t)]) (by simp [results, Try.results73, go_sem, x0, x1]) rfl ?_
    refine ⟨N5.out.1.kept, .inl ⟨(rsC t, rsF t), s1, _, ?_, rfl, rfl, N5.out.1.rd⟩⟩
    have := HP1.out
    rw [pRs, map_of this, if_pos HE.out]
    rfl
  · have hd : (rsR t == 0) = false := by rw [beq_eq_false_iff_ne]; exact he
    have HE := hid he
    clear he
    go_wp2_with (first
      | (refine wl_store_blk rfl 28 _ _ rfl w2.heap.size 0 rfl #[.int .i64 (rsC t), .float .f64 (rsF t)] rfl [.int .i64 0, .float .f64 0] 28 (heap_alloc_last w2 _) (by simp) (by kernel_rfl) (by simp [Value.oneCell']) ?_; intro w3 Hz; have N4 : Hid (PrAt b w w3 s1 [.int .i64 0, .float .f64 0] 28 ∧ True) := hid (by have hb := Hz.out.2.below ((Below.refl w2.heap.size w2).alloc (Nat.le_refl _) _) (Nat.le_refl _); exact ⟨N2.out.under hb, trivial⟩); clear Hz)
      | (go_at_call 49; refine (ineed_no _).mono ?_; rintro e wz ⟨rfl, hw⟩; replace hw := hw.symm; subst hw))
    exact ⟨rfl, N4.out.1.kept, .inr ⟨by have := HP1.out; rw [pRs, map_of this, if_neg HE.out]; rfl, rfl⟩⟩
set_option maxRecDepth 100000 in
set_option maxHeartbeats 3200000 in
theorem ipconf_got (b : Nat) (s : ByteArray) (w : World) (h : RdAt w b s false) : Calls Try.prog 94 #[.agg #[.pointer (some ⟨b, 0, none⟩)]] w (Got pCf b s vCf w) := by
  have H0 := hid (pr_begin h [.int .i64 0, .slice none 0 0] 61)
  have y0 := H0.out.box.cell 0 _ rfl
  clear h
  go_enter Try.func94, Try.ntmps94
  go_wp2_with fail
  refine (iptext_got b s _ H0.out.rd).mono ?_
  rintro e w1 ⟨hk, hor⟩
  rcases hor with ⟨t, s1, v1, hp, rfl, rfl, hr⟩ | ⟨hp, rfl⟩
  rotate_left
  · have HX := hid (And.intro hp hk)
    clear hp hk
    go_wp2
    exact ⟨rfl, H0.out.kept.trans HX.out.2 (.inl rfl), .inr ⟨map_no HX.out.1, rfl⟩⟩
  have N1 := hid (H0.out.call hk hr)
  have HP1 := hid hp
  have hsz := pT_sz hp
  clear hk hr hp y0
  go_wp2_with fail
  refine (cread_any t _).mono ?_
  rintro e w2 ⟨v2, rfl, hO⟩
  have hb : Below w1.heap.size w1 w2 := hO.bel
  obtain ⟨ad, cp, rfl, hI⟩ := own_ints hO.own
  have HO := hid (And.intro hO hI)
  have HZ : Hid (w.heap.size + 1 < w1.heap.size) := hid (lt_of_blk N1.out.res)
  clear hO hI
  have N2 := hid (N1.out.under hb)
  clear hb hsz
  by_cases he : readE t = 0
  · have hd : (readE t == 0) = true := by rw [he]; rfl
    have HE := hid he
    clear he
    go_wp2_with (first
      | (have := N4; refine wl_store_blk rfl 61 _ _ rfl (w.heap.size + 1) 0 rfl #[.int .i64 (readZ t), .slice ad (readM t).length cp] rfl [.int .i64 0, .slice none 0 0] 61 N4.out.1.res (by simp) (by kernel_rfl) (by simp [Value.oneCell']) ?_; intro w5 Hz; have N5 : Hid (PrAt b w w5 s1 [.int .i64 (readZ t), .slice ad (readM t).length cp] 61 ∧ One (w.heap.size + 1) w3 w5) := hid ⟨N4.out.1.ans Hz.out.2 Hz.out.1, Hz.out.2⟩; clear Hz)
      | (refine wl_store_blk rfl 61 _ _ rfl w2.heap.size 0 rfl #[.int .i64 (readZ t), .slice ad (readM t).length cp] rfl [.int .i64 0, .slice none 0 0] 61 (heap_alloc_last w2 _) (by simp) (by kernel_rfl) (by simp [Value.oneCell']) ?_; intro w3 Hz; have N4 : Hid (PrAt b w w3 s1 [.int .i64 0, .slice none 0 0] 61 ∧ BxAt w3 w2.heap.size [.int .i64 (readZ t), .slice ad (readM t).length cp] 61 ∧ Below w2.heap.size w2 w3) := hid (by have hb := Hz.out.2.below ((Below.refl w2.heap.size w2).alloc (Nat.le_refl _) _) (Nat.le_refl _); exact ⟨N2.out.under hb, Hz.out.1, hb⟩); clear Hz; have c0 := N4.out.2.1.cell 0 _ rfl; have c1 := N4.out.2.1.cell 1 _ rfl)
      | (go_at_call 49; refine (ineed_yes _).mono ?_; rintro e wz ⟨rfl, hw⟩; replace hw := hw.symm; subst hw))
    have x0 := N5.out.1.res.cell 0 _ rfl; have x1 := N5.out.1.res.cell 1 _ rfl
    refine bodyPost_ret (v := .agg #[.int .i64 (readZ t), .slice ad (readM t).length cp]) (by simp [results, Try.results94, go_sem, x0, x1]) rfl ?_
    refine ⟨N5.out.1.kept, .inl ⟨(readZ t, readM t), s1, _, ?_, rfl, ⟨_, rfl, ?_⟩, N5.out.1.rd⟩⟩
    · have := HP1.out
      rw [pCf, map_of this, if_pos HE.out]
      rfl
    · have hR : Reads (fun k => w1.heap.size ≤ k) w2 (.slice ad (readM t).length cp) (dInts (readM t)) := ints_reads HO.out.2 (fun x hx _ => by
        rcases HO.out.1.own.2 with ⟨hv, _⟩ | ⟨g, cap, cur, hv, hB, _⟩
        · rw [hx] at hv; cases hv
        · rw [hx] at hv; cases hv; exact hB)
      exact ((hR.under N4.out.2.2 (Nat.le_refl _)).one N5.out.2 (by have := HZ.out; omega)).mono (fun k _ hk => by have := HZ.out; omega)
  · have hd : (readE t == 0) = false := by rw [beq_eq_false_iff_ne]; exact he
    have HE := hid he
    clear he
    go_wp2_with (first
      | (refine wl_store_blk rfl 61 _ _ rfl w2.heap.size 0 rfl #[.int .i64 (readZ t), .slice ad (readM t).length cp] rfl [.int .i64 0, .slice none 0 0] 61 (heap_alloc_last w2 _) (by simp) (by kernel_rfl) (by simp [Value.oneCell']) ?_; intro w3 Hz; have N4 : Hid (PrAt b w w3 s1 [.int .i64 0, .slice none 0 0] 61 ∧ True) := hid (by have hb := Hz.out.2.below ((Below.refl w2.heap.size w2).alloc (Nat.le_refl _) _) (Nat.le_refl _); exact ⟨N2.out.under hb, trivial⟩); clear Hz)
      | (go_at_call 49; refine (ineed_no _).mono ?_; rintro e wz ⟨rfl, hw⟩; replace hw := hw.symm; subst hw))
    exact ⟨rfl, N4.out.1.kept, .inr ⟨by have := HP1.out; rw [pCf, map_of this, if_neg HE.out]; rfl, rfl⟩⟩
end Go.Proofs.Ytepcdbmdfpaomaa
