/- The program's Bytes. -/
import Derived.Test.YtgmekkgbobmplaaGreatNa16
namespace Go.Proofs.YtgmekkgbobmplaaGreat
open Go.RowKit

def byE (m : Ms) : Int := if inB m.k 1 10 = false then 19 else if fitB m = false then 4 else if 65536 < (msL m).length then 3 else 0
def byT (m : Ms) : ByteArray := if byE m = 0 then ⟨(msL m).toArray⟩ else ⟨#[]⟩
theorem done_long {l : List UInt8} {t : ByteArray} {er : Int} (h : (([] ++ l).length ≤ 65536 ∧ er = 0 ∧ t = ⟨([] ++ l).toArray⟩) ∨ (65536 < ([] ++ l).length ∧ er ≠ 0)) (hl : 65536 < l.length) : (er != 0) = true := by
  rcases h with ⟨h1, _⟩ | ⟨_, h2⟩
  · rw [List.nil_append] at h1; omega
  · simpa using h2
theorem done_well {l : List UInt8} {t : ByteArray} {er : Int} (h : (([] ++ l).length ≤ 65536 ∧ er = 0 ∧ t = ⟨([] ++ l).toArray⟩) ∨ (65536 < ([] ++ l).length ∧ er ≠ 0)) (hl : ¬ 65536 < l.length) : er = 0 ∧ t = ⟨l.toArray⟩ := by
  rcases h with ⟨_, h2, h3⟩ | ⟨h1, _⟩
  · exact ⟨h2, by rw [h3, List.nil_append]⟩
  · rw [List.nil_append] at h1; omega
theorem fit_kind {m : Ms} (h : fitB m = true) : inB m.k 1 10 = true := by
  rw [fitB, Bool.and_eq_true] at h
  exact h.1
set_option maxRecDepth 100000 in
set_option maxHeartbeats 3200000 in
theorem ibytes_0 {F : Nat → Prop} (m : Ms) (hB : MsB m) (a13 a14 a15 a16 : Option Addr) (c13 c14 c15 c16 : Nat) (w : World) (hL : MsL F w m (.slice a13 m.nx.length c13) (.slice a14 m.sg.length c14) (.slice a15 m.cg.length c15) (.slice a16 m.ln.length c16)) (hk : inB m.k 1 10 = false) :
    Calls Tryz.prog 37 #[.agg #[.int .i64 m.k, .int .i64 m.ep, .int .i64 m.v, .int .i64 m.sl, .int .i64 m.rq.c, .int .i64 m.rq.st, .int .i64 m.rq.k, .string m.rq.key, .float .f64 m.rq.b, .int .i64 m.rq.id, .int .i64 m.rs.1, .float .f64 m.rs.2, .string m.tx, .slice a13 m.nx.length c13, .slice a14 m.sg.length c14, .slice a15 m.cg.length c15, .slice a16 m.ln.length c16]] w fun e w' => e = .returned (.tuple #[.string (byT m), .int .i64 (byE m)]) ∧ Below w.heap.size w w' := by
  obtain ⟨wa, ewa⟩ : ∃ wa, wa = w.alloc (.cells #[.int .i64 m.k, .int .i64 m.ep, .int .i64 m.v, .int .i64 m.sl, .int .i64 m.rq.c, .int .i64 m.rq.st, .int .i64 m.rq.k, .string m.rq.key, .float .f64 m.rq.b, .int .i64 m.rq.id, .int .i64 m.rs.1, .float .f64 m.rs.2, .string m.tx, .slice a13 m.nx.length c13, .slice a14 m.sg.length c14, .slice a15 m.cg.length c15, .slice a16 m.ln.length c16] 48) := ⟨_, rfl⟩
  have hw0 : Below w.heap.size w wa := by rw [ewa]; exact (Below.refl w.heap.size w).alloc (Nat.le_refl _) _
  have H0 : Hid (BxAt wa w.heap.size [.int .i64 m.k, .int .i64 m.ep, .int .i64 m.v, .int .i64 m.sl, .int .i64 m.rq.c, .int .i64 m.rq.st, .int .i64 m.rq.k, .string m.rq.key, .float .f64 m.rq.b, .int .i64 m.rq.id, .int .i64 m.rs.1, .float .f64 m.rs.2, .string m.tx, .slice a13 m.nx.length c13, .slice a14 m.sg.length c14, .slice a15 m.cg.length c15, .slice a16 m.ln.length c16] 48 ∧ Below w.heap.size w wa) := hid ⟨by rw [ewa]; exact heap_alloc_last w _, hw0⟩
  have HA : Hid (w.alloc (.cells #[.int .i64 m.k, .int .i64 m.ep, .int .i64 m.v, .int .i64 m.sl, .int .i64 m.rq.c, .int .i64 m.rq.st, .int .i64 m.rq.k, .string m.rq.key, .float .f64 m.rq.b, .int .i64 m.rq.id, .int .i64 m.rs.1, .float .f64 m.rs.2, .string m.tx, .slice a13 m.nx.length c13, .slice a14 m.sg.length c14, .slice a15 m.cg.length c15, .slice a16 m.ln.length c16] 48) = wa) := hid ewa.symm
  clear ewa
  have z0 : (w.alloc (.cells #[.int .i64 m.k, .int .i64 m.ep, .int .i64 m.v, .int .i64 m.sl, .int .i64 m.rq.c, .int .i64 m.rq.st, .int .i64 m.rq.k, .string m.rq.key, .float .f64 m.rq.b, .int .i64 m.rq.id, .int .i64 m.rs.1, .float .f64 m.rs.2, .string m.tx, .slice a13 m.nx.length c13, .slice a14 m.sg.length c14, .slice a15 m.cg.length c15, .slice a16 m.ln.length c16] 48)).cell? ⟨w.heap.size, 0, none⟩ = some (.int .i64 m.k) := by rw [HA.out]; exact H0.out.1.cell 0 _ rfl
  have HL : Hid (∀ u, Below w.heap.size w u → MsL F u m (.slice a13 m.nx.length c13) (.slice a14 m.sg.length c14) (.slice a15 m.cg.length c15) (.slice a16 m.ln.length c16)) := hid (fun u hu => hL.under hu)
  have HBd := hid hB
  clear hL hB hw0
  rw [show byE m = 19 by rw [byE, if_pos hk], show byT m = ⟨#[]⟩ by rw [byT, if_neg (by rw [byE, if_pos hk]; decide)]]
  have HK := hid hk
  clear hk
  go_enter Tryz.func37, Tryz.ntmps37
  go_wp2_with (go_at_call 64; refine (ikind_any _ _).mono ?_; rintro e w1 ⟨rfl, hw⟩; rw [HK.out]; replace hw := (hw.trans HA.out).symm; subst hw; clear z0)
  go_ret2
  exact ⟨rfl, H0.out.2⟩
set_option maxRecDepth 100000 in
set_option maxHeartbeats 3200000 in
theorem ibytes_1 {F : Nat → Prop} (m : Ms) (hB : MsB m) (a13 a14 a15 a16 : Option Addr) (c13 c14 c15 c16 : Nat) (w : World) (hL : MsL F w m (.slice a13 m.nx.length c13) (.slice a14 m.sg.length c14) (.slice a15 m.cg.length c15) (.slice a16 m.ln.length c16)) (hk : inB m.k 1 10 = true) (hf : fitB m = false) :
    Calls Tryz.prog 37 #[.agg #[.int .i64 m.k, .int .i64 m.ep, .int .i64 m.v, .int .i64 m.sl, .int .i64 m.rq.c, .int .i64 m.rq.st, .int .i64 m.rq.k, .string m.rq.key, .float .f64 m.rq.b, .int .i64 m.rq.id, .int .i64 m.rs.1, .float .f64 m.rs.2, .string m.tx, .slice a13 m.nx.length c13, .slice a14 m.sg.length c14, .slice a15 m.cg.length c15, .slice a16 m.ln.length c16]] w fun e w' => e = .returned (.tuple #[.string (byT m), .int .i64 (byE m)]) ∧ Below w.heap.size w w' := by
  obtain ⟨wa, ewa⟩ : ∃ wa, wa = w.alloc (.cells #[.int .i64 m.k, .int .i64 m.ep, .int .i64 m.v, .int .i64 m.sl, .int .i64 m.rq.c, .int .i64 m.rq.st, .int .i64 m.rq.k, .string m.rq.key, .float .f64 m.rq.b, .int .i64 m.rq.id, .int .i64 m.rs.1, .float .f64 m.rs.2, .string m.tx, .slice a13 m.nx.length c13, .slice a14 m.sg.length c14, .slice a15 m.cg.length c15, .slice a16 m.ln.length c16] 48) := ⟨_, rfl⟩
  have hw0 : Below w.heap.size w wa := by rw [ewa]; exact (Below.refl w.heap.size w).alloc (Nat.le_refl _) _
  have H0 : Hid (BxAt wa w.heap.size [.int .i64 m.k, .int .i64 m.ep, .int .i64 m.v, .int .i64 m.sl, .int .i64 m.rq.c, .int .i64 m.rq.st, .int .i64 m.rq.k, .string m.rq.key, .float .f64 m.rq.b, .int .i64 m.rq.id, .int .i64 m.rs.1, .float .f64 m.rs.2, .string m.tx, .slice a13 m.nx.length c13, .slice a14 m.sg.length c14, .slice a15 m.cg.length c15, .slice a16 m.ln.length c16] 48 ∧ Below w.heap.size w wa) := hid ⟨by rw [ewa]; exact heap_alloc_last w _, hw0⟩
  have HA : Hid (w.alloc (.cells #[.int .i64 m.k, .int .i64 m.ep, .int .i64 m.v, .int .i64 m.sl, .int .i64 m.rq.c, .int .i64 m.rq.st, .int .i64 m.rq.k, .string m.rq.key, .float .f64 m.rq.b, .int .i64 m.rq.id, .int .i64 m.rs.1, .float .f64 m.rs.2, .string m.tx, .slice a13 m.nx.length c13, .slice a14 m.sg.length c14, .slice a15 m.cg.length c15, .slice a16 m.ln.length c16] 48) = wa) := hid ewa.symm
  clear ewa
  have z0 : (w.alloc (.cells #[.int .i64 m.k, .int .i64 m.ep, .int .i64 m.v, .int .i64 m.sl, .int .i64 m.rq.c, .int .i64 m.rq.st, .int .i64 m.rq.k, .string m.rq.key, .float .f64 m.rq.b, .int .i64 m.rq.id, .int .i64 m.rs.1, .float .f64 m.rs.2, .string m.tx, .slice a13 m.nx.length c13, .slice a14 m.sg.length c14, .slice a15 m.cg.length c15, .slice a16 m.ln.length c16] 48)).cell? ⟨w.heap.size, 0, none⟩ = some (.int .i64 m.k) := by rw [HA.out]; exact H0.out.1.cell 0 _ rfl
  have HL : Hid (∀ u, Below w.heap.size w u → MsL F u m (.slice a13 m.nx.length c13) (.slice a14 m.sg.length c14) (.slice a15 m.cg.length c15) (.slice a16 m.ln.length c16)) := hid (fun u hu => hL.under hu)
  have HBd := hid hB
  clear hL hB hw0
  have HK := hid hk
  have HF : Hid (∀ X, fitB m = X → ∀ u, Below w.heap.size w u → Calls Tryz.prog 65 #[.agg #[.int .i64 m.k, .int .i64 m.ep, .int .i64 m.v, .int .i64 m.sl, .int .i64 m.rq.c, .int .i64 m.rq.st, .int .i64 m.rq.k, .string m.rq.key, .float .f64 m.rq.b, .int .i64 m.rq.id, .int .i64 m.rs.1, .float .f64 m.rs.2, .string m.tx, .slice a13 m.nx.length c13, .slice a14 m.sg.length c14, .slice a15 m.cg.length c15, .slice a16 m.ln.length c16]] u fun e w' => e = .returned (.bool X) ∧ Below u.heap.size u w') := hid (fun X hX u hu => by rw [← hX]; exact ifits_any m HBd.out a13 a14 a15 a16 c13 c14 c15 c16 u (HL.out u hu))
  rw [show byE m = 4 by rw [byE, if_neg (by rw [hk]; decide), if_pos hf], show byT m = ⟨#[]⟩ by rw [byT, if_neg (by rw [byE, if_neg (by rw [hk]; decide), if_pos hf]; decide)]]
  have HFb := hid (HF.out _ hf)
  clear hk hf
  go_enter Tryz.func37, Tryz.ntmps37
  go_wp2_with (first
    | (go_at_call 64; refine (ikind_any _ _).mono ?_; rintro e w1 ⟨rfl, hw⟩; rw [HK.out]; replace hw := (hw.trans HA.out).symm; subst hw; clear z0; have y0 := H0.out.1.cell 0 _ rfl; have y1 := H0.out.1.cell 1 _ rfl; have y2 := H0.out.1.cell 2 _ rfl; have y3 := H0.out.1.cell 3 _ rfl; have y4 := H0.out.1.cell 4 _ rfl; have y5 := H0.out.1.cell 5 _ rfl; have y6 := H0.out.1.cell 6 _ rfl; have y7 := H0.out.1.cell 7 _ rfl; have y8 := H0.out.1.cell 8 _ rfl; have y9 := H0.out.1.cell 9 _ rfl; have y10 := H0.out.1.cell 10 _ rfl; have y11 := H0.out.1.cell 11 _ rfl; have y12 := H0.out.1.cell 12 _ rfl; have y13 := H0.out.1.cell 13 _ rfl; have y14 := H0.out.1.cell 14 _ rfl; have y15 := H0.out.1.cell 15 _ rfl; have y16 := H0.out.1.cell 16 _ rfl)
    | (go_at_call 65; refine (HFb.out _ H0.out.2).mono ?_; rintro e w2 ⟨rfl, hb⟩; have H1 := hid (H0.out.2.trans (hb.mono H0.out.2.size)); clear hb y0 y1 y2 y3 y4 y5 y6 y7 y8 y9 y10 y11 y12 y13 y14 y15 y16))
  go_ret2
  exact ⟨rfl, H1.out⟩
set_option maxRecDepth 100000 in
set_option maxHeartbeats 3200000 in
theorem ibytes_2 {F : Nat → Prop} (m : Ms) (hB : MsB m) (a13 a14 a15 a16 : Option Addr) (c13 c14 c15 c16 : Nat) (w : World) (hL : MsL F w m (.slice a13 m.nx.length c13) (.slice a14 m.sg.length c14) (.slice a15 m.cg.length c15) (.slice a16 m.ln.length c16)) (hk : inB m.k 1 10 = true) (hf : fitB m = true) (hlg : 65536 < (msL m).length) :
    Calls Tryz.prog 37 #[.agg #[.int .i64 m.k, .int .i64 m.ep, .int .i64 m.v, .int .i64 m.sl, .int .i64 m.rq.c, .int .i64 m.rq.st, .int .i64 m.rq.k, .string m.rq.key, .float .f64 m.rq.b, .int .i64 m.rq.id, .int .i64 m.rs.1, .float .f64 m.rs.2, .string m.tx, .slice a13 m.nx.length c13, .slice a14 m.sg.length c14, .slice a15 m.cg.length c15, .slice a16 m.ln.length c16]] w fun e w' => e = .returned (.tuple #[.string (byT m), .int .i64 (byE m)]) ∧ Below w.heap.size w w' := by
  obtain ⟨wa, ewa⟩ : ∃ wa, wa = w.alloc (.cells #[.int .i64 m.k, .int .i64 m.ep, .int .i64 m.v, .int .i64 m.sl, .int .i64 m.rq.c, .int .i64 m.rq.st, .int .i64 m.rq.k, .string m.rq.key, .float .f64 m.rq.b, .int .i64 m.rq.id, .int .i64 m.rs.1, .float .f64 m.rs.2, .string m.tx, .slice a13 m.nx.length c13, .slice a14 m.sg.length c14, .slice a15 m.cg.length c15, .slice a16 m.ln.length c16] 48) := ⟨_, rfl⟩
  have hw0 : Below w.heap.size w wa := by rw [ewa]; exact (Below.refl w.heap.size w).alloc (Nat.le_refl _) _
  have H0 : Hid (BxAt wa w.heap.size [.int .i64 m.k, .int .i64 m.ep, .int .i64 m.v, .int .i64 m.sl, .int .i64 m.rq.c, .int .i64 m.rq.st, .int .i64 m.rq.k, .string m.rq.key, .float .f64 m.rq.b, .int .i64 m.rq.id, .int .i64 m.rs.1, .float .f64 m.rs.2, .string m.tx, .slice a13 m.nx.length c13, .slice a14 m.sg.length c14, .slice a15 m.cg.length c15, .slice a16 m.ln.length c16] 48 ∧ Below w.heap.size w wa) := hid ⟨by rw [ewa]; exact heap_alloc_last w _, hw0⟩
  have HA : Hid (w.alloc (.cells #[.int .i64 m.k, .int .i64 m.ep, .int .i64 m.v, .int .i64 m.sl, .int .i64 m.rq.c, .int .i64 m.rq.st, .int .i64 m.rq.k, .string m.rq.key, .float .f64 m.rq.b, .int .i64 m.rq.id, .int .i64 m.rs.1, .float .f64 m.rs.2, .string m.tx, .slice a13 m.nx.length c13, .slice a14 m.sg.length c14, .slice a15 m.cg.length c15, .slice a16 m.ln.length c16] 48) = wa) := hid ewa.symm
  clear ewa
  have z0 : (w.alloc (.cells #[.int .i64 m.k, .int .i64 m.ep, .int .i64 m.v, .int .i64 m.sl, .int .i64 m.rq.c, .int .i64 m.rq.st, .int .i64 m.rq.k, .string m.rq.key, .float .f64 m.rq.b, .int .i64 m.rq.id, .int .i64 m.rs.1, .float .f64 m.rs.2, .string m.tx, .slice a13 m.nx.length c13, .slice a14 m.sg.length c14, .slice a15 m.cg.length c15, .slice a16 m.ln.length c16] 48)).cell? ⟨w.heap.size, 0, none⟩ = some (.int .i64 m.k) := by rw [HA.out]; exact H0.out.1.cell 0 _ rfl
  have HL : Hid (∀ u, Below w.heap.size w u → MsL F u m (.slice a13 m.nx.length c13) (.slice a14 m.sg.length c14) (.slice a15 m.cg.length c15) (.slice a16 m.ln.length c16)) := hid (fun u hu => hL.under hu)
  have HBd := hid hB
  clear hL hB hw0
  have HK := hid hk
  have HF : Hid (∀ X, fitB m = X → ∀ u, Below w.heap.size w u → Calls Tryz.prog 65 #[.agg #[.int .i64 m.k, .int .i64 m.ep, .int .i64 m.v, .int .i64 m.sl, .int .i64 m.rq.c, .int .i64 m.rq.st, .int .i64 m.rq.k, .string m.rq.key, .float .f64 m.rq.b, .int .i64 m.rq.id, .int .i64 m.rs.1, .float .f64 m.rs.2, .string m.tx, .slice a13 m.nx.length c13, .slice a14 m.sg.length c14, .slice a15 m.cg.length c15, .slice a16 m.ln.length c16]] u fun e w' => e = .returned (.bool X) ∧ Below u.heap.size u w') := hid (fun X hX u hu => by rw [← hX]; exact ifits_any m HBd.out a13 a14 a15 a16 c13 c14 c15 c16 u (HL.out u hu))
  have HFb := hid (HF.out _ hf)
  have HW := hid (fit_w hf HBd.out)
  have HE : Hid (byE m = if 65536 < (msL m).length then 3 else 0) := hid (by rw [byE, if_neg (by rw [hk]; decide), if_neg (by rw [hf]; decide)])
  clear hk hf
  rw [show byE m = 3 by rw [HE.out, if_pos hlg], show byT m = ⟨#[]⟩ by rw [byT, if_neg (by rw [HE.out, if_pos hlg]; decide)]]
  have HLg := hid hlg
  clear hlg
  go_enter Tryz.func37, Tryz.ntmps37
  go_wp2_with (first
    | (go_at_call 64; refine (ikind_any _ _).mono ?_; rintro e w1 ⟨rfl, hw⟩; rw [HK.out]; replace hw := (hw.trans HA.out).symm; subst hw; clear z0; have y0 := H0.out.1.cell 0 _ rfl; have y1 := H0.out.1.cell 1 _ rfl; have y2 := H0.out.1.cell 2 _ rfl; have y3 := H0.out.1.cell 3 _ rfl; have y4 := H0.out.1.cell 4 _ rfl; have y5 := H0.out.1.cell 5 _ rfl; have y6 := H0.out.1.cell 6 _ rfl; have y7 := H0.out.1.cell 7 _ rfl; have y8 := H0.out.1.cell 8 _ rfl; have y9 := H0.out.1.cell 9 _ rfl; have y10 := H0.out.1.cell 10 _ rfl; have y11 := H0.out.1.cell 11 _ rfl; have y12 := H0.out.1.cell 12 _ rfl; have y13 := H0.out.1.cell 13 _ rfl; have y14 := H0.out.1.cell 14 _ rfl; have y15 := H0.out.1.cell 15 _ rfl; have y16 := H0.out.1.cell 16 _ rfl)
    | (go_at_call 65; refine (HFb.out _ H0.out.2).mono ?_; rintro e w2 ⟨rfl, hb⟩; have H1 : Hid (BxAt w2 w.heap.size [.int .i64 m.k, .int .i64 m.ep, .int .i64 m.v, .int .i64 m.sl, .int .i64 m.rq.c, .int .i64 m.rq.st, .int .i64 m.rq.k, .string m.rq.key, .float .f64 m.rq.b, .int .i64 m.rq.id, .int .i64 m.rs.1, .float .f64 m.rs.2, .string m.tx, .slice a13 m.nx.length c13, .slice a14 m.sg.length c14, .slice a15 m.cg.length c15, .slice a16 m.ln.length c16] 48 ∧ Below w.heap.size w w2) := hid ⟨H0.out.1.keep hb, H0.out.2.trans (hb.mono H0.out.2.size)⟩; clear hb y0 y1 y2 y3 y4 y5 y6 y7 y8 y9 y10 y11 y12 y13 y14 y15 y16; have y0 := H1.out.1.cell 0 _ rfl; have y1 := H1.out.1.cell 1 _ rfl; have y2 := H1.out.1.cell 2 _ rfl; have y3 := H1.out.1.cell 3 _ rfl; have y4 := H1.out.1.cell 4 _ rfl; have y5 := H1.out.1.cell 5 _ rfl; have y6 := H1.out.1.cell 6 _ rfl; have y7 := H1.out.1.cell 7 _ rfl; have y8 := H1.out.1.cell 8 _ rfl; have y9 := H1.out.1.cell 9 _ rfl; have y10 := H1.out.1.cell 10 _ rfl; have y11 := H1.out.1.cell 11 _ rfl; have y12 := H1.out.1.cell 12 _ rfl; have y13 := H1.out.1.cell 13 _ rfl; have y14 := H1.out.1.cell 14 _ rfl; have y15 := H1.out.1.cell 15 _ rfl; have y16 := H1.out.1.cell 16 _ rfl)
    | (go_at_call 66; refine (pvnew [(w.heap.size, .cells #[.int .i64 m.k, .int .i64 m.ep, .int .i64 m.v, .int .i64 m.sl, .int .i64 m.rq.c, .int .i64 m.rq.st, .int .i64 m.rq.k, .string m.rq.key, .float .f64 m.rq.b, .int .i64 m.rq.id, .int .i64 m.rs.1, .float .f64 m.rs.2, .string m.tx, .slice a13 m.nx.length c13, .slice a14 m.sg.length c14, .slice a15 m.cg.length c15, .slice a16 m.ln.length c16] 48 (0, 0))] _ (fun p hp => by obtain rfl := List.mem_singleton.1 hp; exact H1.out.1)).mono ?_; rintro e w3 ⟨rfl, h3⟩; have H3 := hid h3; clear h3 y0 y1 y2 y3 y4 y5 y6 y7 y8 y9 y10 y11 y12 y13 y14 y15 y16; have HB3 : Hid (BxAt w3 w.heap.size [.int .i64 m.k, .int .i64 m.ep, .int .i64 m.v, .int .i64 m.sl, .int .i64 m.rq.c, .int .i64 m.rq.st, .int .i64 m.rq.k, .string m.rq.key, .float .f64 m.rq.b, .int .i64 m.rq.id, .int .i64 m.rs.1, .float .f64 m.rs.2, .string m.tx, .slice a13 m.nx.length c13, .slice a14 m.sg.length c14, .slice a15 m.cg.length c15, .slice a16 m.ln.length c16] 48) := hid H3.out.box; have y0 := HB3.out.cell 0 _ rfl; have y1 := HB3.out.cell 1 _ rfl; have y2 := HB3.out.cell 2 _ rfl; have y3 := HB3.out.cell 3 _ rfl; have y4 := HB3.out.cell 4 _ rfl; have y5 := HB3.out.cell 5 _ rfl; have y6 := HB3.out.cell 6 _ rfl; have y7 := HB3.out.cell 7 _ rfl; have y8 := HB3.out.cell 8 _ rfl; have y9 := HB3.out.cell 9 _ rfl; have y10 := HB3.out.cell 10 _ rfl; have y11 := HB3.out.cell 11 _ rfl; have y12 := HB3.out.cell 12 _ rfl; have y13 := HB3.out.cell 13 _ rfl; have y14 := HB3.out.cell 14 _ rfl; have y15 := HB3.out.cell 15 _ rfl; have y16 := HB3.out.cell 16 _ rfl)
    | (go_at_call 67; refine (iwmsg_any _ _ (Nat.le_refl _) _ m HW.out a13 a14 a15 a16 c13 c14 c15 c16 (HL.out _ H1.out.2) _ _ H3.out).mono ?_; rintro e w4 ⟨rfl, h4⟩; have H4 := hid h4; clear h4 y0 y1 y2 y3 y4 y5 y6 y7 y8 y9 y10 y11 y12 y13 y14 y15 y16)
    | (go_at_call 68; refine (pvdone _ _ _ _ _ H4.out).mono ?_; rintro e w5 ⟨⟨t, er, rfl, hor⟩, hb⟩; have h9 : (er != 0) = true := done_long hor HLg.out; clear hor; have H5 := hid hb; clear hb))
  go_ret2
  exact ⟨rfl, (H1.out.2.trans ((H4.out.bel.mono H1.out.2.size))).trans (H5.out.mono (Nat.le_trans H1.out.2.size (Nat.le_of_lt H4.out.lt)))⟩
set_option maxRecDepth 100000 in
set_option maxHeartbeats 3200000 in
theorem ibytes_3 {F : Nat → Prop} (m : Ms) (hB : MsB m) (a13 a14 a15 a16 : Option Addr) (c13 c14 c15 c16 : Nat) (w : World) (hL : MsL F w m (.slice a13 m.nx.length c13) (.slice a14 m.sg.length c14) (.slice a15 m.cg.length c15) (.slice a16 m.ln.length c16)) (hk : inB m.k 1 10 = true) (hf : fitB m = true) (hlg : ¬ 65536 < (msL m).length) :
    Calls Tryz.prog 37 #[.agg #[.int .i64 m.k, .int .i64 m.ep, .int .i64 m.v, .int .i64 m.sl, .int .i64 m.rq.c, .int .i64 m.rq.st, .int .i64 m.rq.k, .string m.rq.key, .float .f64 m.rq.b, .int .i64 m.rq.id, .int .i64 m.rs.1, .float .f64 m.rs.2, .string m.tx, .slice a13 m.nx.length c13, .slice a14 m.sg.length c14, .slice a15 m.cg.length c15, .slice a16 m.ln.length c16]] w fun e w' => e = .returned (.tuple #[.string (byT m), .int .i64 (byE m)]) ∧ Below w.heap.size w w' := by
  obtain ⟨wa, ewa⟩ : ∃ wa, wa = w.alloc (.cells #[.int .i64 m.k, .int .i64 m.ep, .int .i64 m.v, .int .i64 m.sl, .int .i64 m.rq.c, .int .i64 m.rq.st, .int .i64 m.rq.k, .string m.rq.key, .float .f64 m.rq.b, .int .i64 m.rq.id, .int .i64 m.rs.1, .float .f64 m.rs.2, .string m.tx, .slice a13 m.nx.length c13, .slice a14 m.sg.length c14, .slice a15 m.cg.length c15, .slice a16 m.ln.length c16] 48) := ⟨_, rfl⟩
  have hw0 : Below w.heap.size w wa := by rw [ewa]; exact (Below.refl w.heap.size w).alloc (Nat.le_refl _) _
  have H0 : Hid (BxAt wa w.heap.size [.int .i64 m.k, .int .i64 m.ep, .int .i64 m.v, .int .i64 m.sl, .int .i64 m.rq.c, .int .i64 m.rq.st, .int .i64 m.rq.k, .string m.rq.key, .float .f64 m.rq.b, .int .i64 m.rq.id, .int .i64 m.rs.1, .float .f64 m.rs.2, .string m.tx, .slice a13 m.nx.length c13, .slice a14 m.sg.length c14, .slice a15 m.cg.length c15, .slice a16 m.ln.length c16] 48 ∧ Below w.heap.size w wa) := hid ⟨by rw [ewa]; exact heap_alloc_last w _, hw0⟩
  have HA : Hid (w.alloc (.cells #[.int .i64 m.k, .int .i64 m.ep, .int .i64 m.v, .int .i64 m.sl, .int .i64 m.rq.c, .int .i64 m.rq.st, .int .i64 m.rq.k, .string m.rq.key, .float .f64 m.rq.b, .int .i64 m.rq.id, .int .i64 m.rs.1, .float .f64 m.rs.2, .string m.tx, .slice a13 m.nx.length c13, .slice a14 m.sg.length c14, .slice a15 m.cg.length c15, .slice a16 m.ln.length c16] 48) = wa) := hid ewa.symm
  clear ewa
  have z0 : (w.alloc (.cells #[.int .i64 m.k, .int .i64 m.ep, .int .i64 m.v, .int .i64 m.sl, .int .i64 m.rq.c, .int .i64 m.rq.st, .int .i64 m.rq.k, .string m.rq.key, .float .f64 m.rq.b, .int .i64 m.rq.id, .int .i64 m.rs.1, .float .f64 m.rs.2, .string m.tx, .slice a13 m.nx.length c13, .slice a14 m.sg.length c14, .slice a15 m.cg.length c15, .slice a16 m.ln.length c16] 48)).cell? ⟨w.heap.size, 0, none⟩ = some (.int .i64 m.k) := by rw [HA.out]; exact H0.out.1.cell 0 _ rfl
  have HL : Hid (∀ u, Below w.heap.size w u → MsL F u m (.slice a13 m.nx.length c13) (.slice a14 m.sg.length c14) (.slice a15 m.cg.length c15) (.slice a16 m.ln.length c16)) := hid (fun u hu => hL.under hu)
  have HBd := hid hB
  clear hL hB hw0
  have HK := hid hk
  have HF : Hid (∀ X, fitB m = X → ∀ u, Below w.heap.size w u → Calls Tryz.prog 65 #[.agg #[.int .i64 m.k, .int .i64 m.ep, .int .i64 m.v, .int .i64 m.sl, .int .i64 m.rq.c, .int .i64 m.rq.st, .int .i64 m.rq.k, .string m.rq.key, .float .f64 m.rq.b, .int .i64 m.rq.id, .int .i64 m.rs.1, .float .f64 m.rs.2, .string m.tx, .slice a13 m.nx.length c13, .slice a14 m.sg.length c14, .slice a15 m.cg.length c15, .slice a16 m.ln.length c16]] u fun e w' => e = .returned (.bool X) ∧ Below u.heap.size u w') := hid (fun X hX u hu => by rw [← hX]; exact ifits_any m HBd.out a13 a14 a15 a16 c13 c14 c15 c16 u (HL.out u hu))
  have HFb := hid (HF.out _ hf)
  have HW := hid (fit_w hf HBd.out)
  have HE : Hid (byE m = if 65536 < (msL m).length then 3 else 0) := hid (by rw [byE, if_neg (by rw [hk]; decide), if_neg (by rw [hf]; decide)])
  clear hk hf
  rw [show byE m = 0 by rw [HE.out, if_neg hlg], show byT m = ⟨(msL m).toArray⟩ by rw [byT, if_pos (by rw [HE.out, if_neg hlg])]]
  have HLg := hid hlg
  clear hlg
  go_enter Tryz.func37, Tryz.ntmps37
  go_wp2_with (first
    | (go_at_call 64; refine (ikind_any _ _).mono ?_; rintro e w1 ⟨rfl, hw⟩; rw [HK.out]; replace hw := (hw.trans HA.out).symm; subst hw; clear z0; have y0 := H0.out.1.cell 0 _ rfl; have y1 := H0.out.1.cell 1 _ rfl; have y2 := H0.out.1.cell 2 _ rfl; have y3 := H0.out.1.cell 3 _ rfl; have y4 := H0.out.1.cell 4 _ rfl; have y5 := H0.out.1.cell 5 _ rfl; have y6 := H0.out.1.cell 6 _ rfl; have y7 := H0.out.1.cell 7 _ rfl; have y8 := H0.out.1.cell 8 _ rfl; have y9 := H0.out.1.cell 9 _ rfl; have y10 := H0.out.1.cell 10 _ rfl; have y11 := H0.out.1.cell 11 _ rfl; have y12 := H0.out.1.cell 12 _ rfl; have y13 := H0.out.1.cell 13 _ rfl; have y14 := H0.out.1.cell 14 _ rfl; have y15 := H0.out.1.cell 15 _ rfl; have y16 := H0.out.1.cell 16 _ rfl)
    | (go_at_call 65; refine (HFb.out _ H0.out.2).mono ?_; rintro e w2 ⟨rfl, hb⟩; have H1 : Hid (BxAt w2 w.heap.size [.int .i64 m.k, .int .i64 m.ep, .int .i64 m.v, .int .i64 m.sl, .int .i64 m.rq.c, .int .i64 m.rq.st, .int .i64 m.rq.k, .string m.rq.key, .float .f64 m.rq.b, .int .i64 m.rq.id, .int .i64 m.rs.1, .float .f64 m.rs.2, .string m.tx, .slice a13 m.nx.length c13, .slice a14 m.sg.length c14, .slice a15 m.cg.length c15, .slice a16 m.ln.length c16] 48 ∧ Below w.heap.size w w2) := hid ⟨H0.out.1.keep hb, H0.out.2.trans (hb.mono H0.out.2.size)⟩; clear hb y0 y1 y2 y3 y4 y5 y6 y7 y8 y9 y10 y11 y12 y13 y14 y15 y16; have y0 := H1.out.1.cell 0 _ rfl; have y1 := H1.out.1.cell 1 _ rfl; have y2 := H1.out.1.cell 2 _ rfl; have y3 := H1.out.1.cell 3 _ rfl; have y4 := H1.out.1.cell 4 _ rfl; have y5 := H1.out.1.cell 5 _ rfl; have y6 := H1.out.1.cell 6 _ rfl; have y7 := H1.out.1.cell 7 _ rfl; have y8 := H1.out.1.cell 8 _ rfl; have y9 := H1.out.1.cell 9 _ rfl; have y10 := H1.out.1.cell 10 _ rfl; have y11 := H1.out.1.cell 11 _ rfl; have y12 := H1.out.1.cell 12 _ rfl; have y13 := H1.out.1.cell 13 _ rfl; have y14 := H1.out.1.cell 14 _ rfl; have y15 := H1.out.1.cell 15 _ rfl; have y16 := H1.out.1.cell 16 _ rfl)
    | (go_at_call 66; refine (pvnew [(w.heap.size, .cells #[.int .i64 m.k, .int .i64 m.ep, .int .i64 m.v, .int .i64 m.sl, .int .i64 m.rq.c, .int .i64 m.rq.st, .int .i64 m.rq.k, .string m.rq.key, .float .f64 m.rq.b, .int .i64 m.rq.id, .int .i64 m.rs.1, .float .f64 m.rs.2, .string m.tx, .slice a13 m.nx.length c13, .slice a14 m.sg.length c14, .slice a15 m.cg.length c15, .slice a16 m.ln.length c16] 48 (0, 0))] _ (fun p hp => by obtain rfl := List.mem_singleton.1 hp; exact H1.out.1)).mono ?_; rintro e w3 ⟨rfl, h3⟩; have H3 := hid h3; clear h3 y0 y1 y2 y3 y4 y5 y6 y7 y8 y9 y10 y11 y12 y13 y14 y15 y16; have HB3 : Hid (BxAt w3 w.heap.size [.int .i64 m.k, .int .i64 m.ep, .int .i64 m.v, .int .i64 m.sl, .int .i64 m.rq.c, .int .i64 m.rq.st, .int .i64 m.rq.k, .string m.rq.key, .float .f64 m.rq.b, .int .i64 m.rq.id, .int .i64 m.rs.1, .float .f64 m.rs.2, .string m.tx, .slice a13 m.nx.length c13, .slice a14 m.sg.length c14, .slice a15 m.cg.length c15, .slice a16 m.ln.length c16] 48) := hid H3.out.box; have y0 := HB3.out.cell 0 _ rfl; have y1 := HB3.out.cell 1 _ rfl; have y2 := HB3.out.cell 2 _ rfl; have y3 := HB3.out.cell 3 _ rfl; have y4 := HB3.out.cell 4 _ rfl; have y5 := HB3.out.cell 5 _ rfl; have y6 := HB3.out.cell 6 _ rfl; have y7 := HB3.out.cell 7 _ rfl; have y8 := HB3.out.cell 8 _ rfl; have y9 := HB3.out.cell 9 _ rfl; have y10 := HB3.out.cell 10 _ rfl; have y11 := HB3.out.cell 11 _ rfl; have y12 := HB3.out.cell 12 _ rfl; have y13 := HB3.out.cell 13 _ rfl; have y14 := HB3.out.cell 14 _ rfl; have y15 := HB3.out.cell 15 _ rfl; have y16 := HB3.out.cell 16 _ rfl)
    | (go_at_call 67; refine (iwmsg_any _ _ (Nat.le_refl _) _ m HW.out a13 a14 a15 a16 c13 c14 c15 c16 (HL.out _ H1.out.2) _ _ H3.out).mono ?_; rintro e w4 ⟨rfl, h4⟩; have H4 := hid h4; clear h4 y0 y1 y2 y3 y4 y5 y6 y7 y8 y9 y10 y11 y12 y13 y14 y15 y16)
    | (go_at_call 68; refine (pvdone _ _ _ _ _ H4.out).mono ?_; rintro e w5 ⟨⟨t, er, rfl, hor⟩, hb⟩; obtain ⟨h7, h8⟩ := done_well hor HLg.out; subst h7; subst h8; clear hor; have H5 := hid hb; clear hb))
  go_ret2
  exact ⟨rfl, (H1.out.2.trans ((H4.out.bel.mono H1.out.2.size))).trans (H5.out.mono (Nat.le_trans H1.out.2.size (Nat.le_of_lt H4.out.lt)))⟩
theorem ibytes_any {F : Nat → Prop} (m : Ms) (hB : MsB m) (a13 a14 a15 a16 : Option Addr) (c13 c14 c15 c16 : Nat) (w : World) (hL : MsL F w m (.slice a13 m.nx.length c13) (.slice a14 m.sg.length c14) (.slice a15 m.cg.length c15) (.slice a16 m.ln.length c16)) :
    Calls Tryz.prog 37 #[.agg #[.int .i64 m.k, .int .i64 m.ep, .int .i64 m.v, .int .i64 m.sl, .int .i64 m.rq.c, .int .i64 m.rq.st, .int .i64 m.rq.k, .string m.rq.key, .float .f64 m.rq.b, .int .i64 m.rq.id, .int .i64 m.rs.1, .float .f64 m.rs.2, .string m.tx, .slice a13 m.nx.length c13, .slice a14 m.sg.length c14, .slice a15 m.cg.length c15, .slice a16 m.ln.length c16]] w fun e w' => e = .returned (.tuple #[.string (byT m), .int .i64 (byE m)]) ∧ Below w.heap.size w w' := by
  cases hk : inB m.k 1 10 with
  | false => exact ibytes_0 m hB a13 a14 a15 a16 c13 c14 c15 c16 w hL hk
  | true =>
    cases hf : fitB m with
    | false => exact ibytes_1 m hB a13 a14 a15 a16 c13 c14 c15 c16 w hL hk hf
    | true =>
      by_cases hlg : 65536 < (msL m).length
      · exact ibytes_2 m hB a13 a14 a15 a16 c13 c14 c15 c16 w hL hk hf hlg
      · exact ibytes_3 m hB a13 a14 a15 a16 c13 c14 c15 c16 w hL hk hf hlg
end Go.Proofs.YtgmekkgbobmplaaGreat
