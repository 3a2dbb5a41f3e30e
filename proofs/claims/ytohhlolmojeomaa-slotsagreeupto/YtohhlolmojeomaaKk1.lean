/- Texts laid together: SlL SlM SlN SlO SlP SlQ. -/
import Derived.Test.YtohhlolmojeomaaSlKM
import Derived.Test.YtohhlolmojeomaaKi1
import Derived.Test.YtohhlolmojeomaaKj1
/- Propose, Prepare, Commit. -/
namespace Go.Proofs.Ytohhlolmojeomaa
open Go.RowKit

theorem SetPost.mk2 {w w2 w3 : World} {N g : Nat} {ep : Int} {am : Option Addr} {cm : Nat} {l : List Int} {v : Int} {ps : List Pl} {i : Nat} {p' : Pl} {q : Pp} (hb : But g w w2) (hct : ∀ p0, ps[i]? = some p0 → p'.ct.2 = p0.ct.2) (h : SetPost w2 w3 N g ep am cm l v (ps.set i p') i q) : SetPost w w3 N g ep am cm l v ps i q := by
  obtain ⟨p2, h1, h2, h3, h4⟩ := h
  rw [List.set_set] at h1
  refine ⟨p2, h1, h2, hb.trans h3, fun p0 h0 => ?_⟩
  rw [← hct p0 h0]
  exact (h4 p' (set_get p' h0)).imp id (fun hf => hf.mono hb.size)
theorem LgM.put1V {w2 w3 : World} {N g : Nat} {ep : Int} {am : Option Addr} {cm : Nat} {l : List Int} {v : Int} {ps : List Pl} (h : LgM w2 N g ep am cm l v ps) {i : Nat} {p p' : Pl} (hi : ps[i]? = some p) (q : Nat) (u : Value) (hq : q < 43) (he : setAt (plC p) q [u] = plC p') (hok : PlOk p') (hct : p'.ct = p.ct) (Hz : w3.heap[g]? = some (.cells ((lgC ep (.slice am l.length cm) v ps).set (3 + i * 43 + q) u).toArray 81 (0, 0)) ∧ One g w2 w3) : LgM w3 N g ep am cm l v (ps.set i p') ∧ But g w2 w3 := by
  obtain ⟨a, k, h1, h2, h3⟩ := (h.rd p (List.mem_of_getElem? hi)).but Hz.2.but h.lt
  exact ⟨h.put i p p' q [u] hi (by simp; omega) he hok Hz.2.but Hz.1 ⟨a, k, by rw [hct]; exact h1, by rw [hct]; exact h2, h3⟩, Hz.2.but⟩
set_option maxRecDepth 100000 in
set_option maxHeartbeats 3200000 in
theorem snote_same (N g : Nat) (ep : Int) (am : Option Addr) (cm : Nat) (l : List Int) (v : Int) (ps : List Pl) (i : Nat) (p : Pl) (w : World) (h : LgM w N g ep am cm l v ps) (hi : ps[i]? = some p) (q o : Nat) (ho : o = 3 + i * 43 + q) (hq : q < 43) (t0 t : ByteArray) (h0 : (plC p)[q]? = some (.string t0)) (hz : t0.size ≠ 0) (s : Int) :
    Calls Try.prog 51 #[.pointer (some ⟨g, 0, none⟩), .pointer (some ⟨g, o, none⟩), .string t, .int .i64 s] w fun e w' => e = .returned (.int .i64 7) ∧ w' = w := by
  have y0 : w.cell? ⟨g, o, none⟩ = some (.string t0) := by rw [ho]; exact h.at_.at i p q _ hi hq h0
  have hE := toList_cons hz
  clear h hi ho hq h0 hz
  go_enter Try.func51, Try.ntmps51
  go_wp2
  go_ret
  exact ⟨rfl, rfl⟩
set_option maxRecDepth 100000 in
set_option maxHeartbeats 3200000 in
theorem snote_ok (N g : Nat) (ep : Int) (am : Option Addr) (cm : Nat) (l : List Int) (v : Int) (ps : List Pl) (i : Nat) (p : Pl) (w : World) (h : LgM w N g ep am cm l v ps) (hl : 0 < l.length) (hlm : l.length ≤ 1000) (he : 0 ≤ ep ∧ ep ≤ 60) (hv : 0 ≤ v ∧ v ≤ 15) (hi : ps[i]? = some p) (q o : Nat) (ho : o = 3 + i * 43 + q) (hq : q < 43) (t0 t : ByteArray) (h0 : (plC p)[q]? = some (.string t0)) (hz : t0.size = 0) (p' : Pl) (hp : setAt (plC p) q [.string t] = plC p') (hok : PlOk p') (hct : p'.ct = p.ct) (hsz : p'.pro.size ≤ 64) :
    Calls Try.prog 51 #[.pointer (some ⟨g, 0, none⟩), .pointer (some ⟨g, o, none⟩), .string t, .int .i64 (4 * ep + 1 + (i : Int))] w fun e w' => e = .returned (.int .i64 0) ∧ SetPost w w' N g ep am cm l v ps i (setl ep l.length v (4 * ep + 1 + (i : Int)) p'.pp) := by
  have y0 : w.cell? ⟨g, o, none⟩ = some (.string t0) := by rw [ho]; exact h.at_.at i p q _ hi hq h0
  have hE := toList_nil hz
  have HLen : Hid ((lgC ep (.slice am l.length cm) v ps).length = 175 ∧ i < 4) := hid ⟨by rw [lgC]; simp [flat_len43 h.at_.ok, h.at_.four], by have := (List.getElem?_eq_some_iff.1 hi).1; rw [h.at_.four] at this; exact this⟩
  have HL := hid h
  have HOo := hid (And.intro ho hq)
  have HCt : Hid (∀ p0, ps[i]? = some p0 → p'.ct.2 = p0.ct.2) := hid (fun p0 h0 => by rw [hi] at h0; cases h0; rw [hct])
  have HPut : Hid (∀ w3, w3.heap[g]? = some (.cells ((lgC ep (.slice am l.length cm) v ps).set o (.string t)).toArray 81 (0, 0)) ∧ One g w w3 → LgM w3 N g ep am cm l v (ps.set i p') ∧ But g w w3) := hid (fun w3 Hz => by rw [ho] at Hz; exact h.put1V hi q (.string t) hq hp hok hct Hz)
  have HS : Hid (∀ u : World, LgM u N g ep am cm l v (ps.set i p') → Calls Try.prog 48 #[.pointer (some ⟨g, 0, none⟩), .int .i64 (4 * ep + 1 + (i : Int))] u fun e w' => e = .returned (.tuple #[]) ∧ SetPost u w' N g ep am cm l v (ps.set i p') i (setl ep l.length v (4 * ep + 1 + (i : Int)) p'.pp)) := hid (fun u hu => ssettle_any N g ep am cm l v (ps.set i p') i p' u hu hl hlm he hv (set_get _ hi) hsz)
  generalize setl ep l.length v (4 * ep + 1 + (i : Int)) p'.pp = res at HS ⊢
  generalize 4 * ep + 1 + (i : Int) = s at HS ⊢
  clear h hl hlm he hv hi ho hq h0 hz hp hok hct hsz
  go_enter Try.func51, Try.ntmps51
  go_wp2_with (first
    | (refine wl_storeV rfl 9 _ _ rfl g o rfl (.string t) rfl rfl rfl (lgC ep (.slice am l.length cm) v ps) 81 HL.out.at_.blk (by rw [HLen.out.1]; have := HLen.out.2; have := HOo.out; omega) (by kernel_rfl) ?_; intro w2 Hz; have H2 := hid (HPut.out w2 Hz.out); clear Hz y0)
    | (go_at_call 48; go_must (refine (HS.out _ H2.out.1).mono ?_); rintro e w3 ⟨rfl, hp3⟩; have H3 := hid hp3; clear hp3))
  go_ret
  exact ⟨rfl, SetPost.mk2 H2.out.2 HCt.out H3.out⟩
theorem rqT_sz {r : Rq} (h : rqE r = 0) : (rqT r).size ≠ 0 ∧ (rqT r).size ≤ 64 := by
  rcases (rqE_iff r).1 h with h1 | h1
  · rw [rqT, if_pos h1]; decide
  · have h2 := right_null h1
    have hk := (right_fields h1).2.2.2.1
    have hL := rqL_len r
    rw [rqT, if_neg (by rw [h2]; decide), if_pos h1]
    have : (⟨(rqL r).toArray⟩ : ByteArray).size = (rqL r).length := by show (rqL r).toArray.size = _; simp
    omega
set_option maxRecDepth 100000 in
set_option maxHeartbeats 3200000 in
theorem spropose_nil (s : Int) (r : Rq) (hb : r.b < 18446744073709551616) (w : World) :
    Calls Try.prog 26 #[.pointer none, .int .i64 s, .agg #[.int .i64 r.c, .int .i64 r.st, .int .i64 r.k, .string r.key, .float .f64 r.b, .int .i64 r.id]] w fun e w' => e = .returned (.int .i64 1) ∧ Below w.heap.size w w' := by
  have H0 : Hid (RqAt (w.alloc (.cells #[.int .i64 r.c, .int .i64 r.st, .int .i64 r.k, .string r.key, .float .f64 r.b, .int .i64 r.id] 43)) w.heap.size r ∧ Below w.heap.size w (w.alloc (.cells #[.int .i64 r.c, .int .i64 r.st, .int .i64 r.k, .string r.key, .float .f64 r.b, .int .i64 r.id] 43))) := hid ⟨heap_alloc_last w _, (Below.refl _ _).alloc (Nat.le_refl _) _⟩
  obtain ⟨⟨q0, q1⟩, q2, q3, q4, q5⟩ := H0.out.1.cells
  have HF : Hid (∀ u : World, Below w.heap.size w u → Calls Try.prog 47 #[.pointer none, .int .i64 s, .agg #[.int .i64 r.c, .int .i64 r.st, .int .i64 r.k, .string r.key, .float .f64 r.b, .int .i64 r.id]] u fun e w' => e = .returned (.tuple #[.pointer none, .string ⟨#[]⟩, .int .i64 1]) ∧ Below u.heap.size u w') := hid (fun u hu => sfind_nil s r hb u)
  clear hb
  go_enter Try.func26, Try.ntmps26
  go_wp2_with (first
    | (go_at_call 47; go_must (refine (HF.out _ H0.out.2).mono ?_); rintro e w1 ⟨rfl, hb1⟩; have H1 := hid (H0.out.2.trans (hb1.mono H0.out.2.size)); clear hb1 q0 q1 q2 q3 q4 q5))
  go_ret
  exact ⟨rfl, H1.out⟩
set_option maxRecDepth 100000 in
set_option maxHeartbeats 3200000 in
theorem spropose_arg (N g : Nat) (ep : Int) (am : Option Addr) (cm : Nat) (l : List Int) (v : Int) (ps : List Pl) (s : Int) (r : Rq) (hb : r.b < 18446744073709551616) (hr : rqE r ≠ 0) (w : World) (h : LgM w N g ep am cm l v ps) (hl : 0 < l.length) :
    Calls Try.prog 26 #[.pointer (some ⟨g, 0, none⟩), .int .i64 s, .agg #[.int .i64 r.c, .int .i64 r.st, .int .i64 r.k, .string r.key, .float .f64 r.b, .int .i64 r.id]] w fun e w' => e = .returned (.int .i64 1) ∧ Below w.heap.size w w' := by
  have H0 : Hid (RqAt (w.alloc (.cells #[.int .i64 r.c, .int .i64 r.st, .int .i64 r.k, .string r.key, .float .f64 r.b, .int .i64 r.id] 43)) w.heap.size r ∧ Below w.heap.size w (w.alloc (.cells #[.int .i64 r.c, .int .i64 r.st, .int .i64 r.k, .string r.key, .float .f64 r.b, .int .i64 r.id] 43))) := hid ⟨heap_alloc_last w _, (Below.refl _ _).alloc (Nat.le_refl _) _⟩
  obtain ⟨⟨q0, q1⟩, q2, q3, q4, q5⟩ := H0.out.1.cells
  have HF : Hid (∀ u : World, Below w.heap.size w u → Calls Try.prog 47 #[.pointer (some ⟨g, 0, none⟩), .int .i64 s, .agg #[.int .i64 r.c, .int .i64 r.st, .int .i64 r.k, .string r.key, .float .f64 r.b, .int .i64 r.id]] u fun e w' => e = .returned (.tuple #[.pointer none, .string ⟨#[]⟩, .int .i64 1]) ∧ Below u.heap.size u w') := hid (fun u hu => sfind_arg g ep am cm l v ps s r hb hr u (h.at_.keep hu) hl)
  clear hb hr h hl
  go_enter Try.func26, Try.ntmps26
  go_wp2_with (first
    | (go_at_call 47; go_must (refine (HF.out _ H0.out.2).mono ?_); rintro e w1 ⟨rfl, hb1⟩; have H1 := hid (H0.out.2.trans (hb1.mono H0.out.2.size)); clear hb1 q0 q1 q2 q3 q4 q5))
  go_ret
  exact ⟨rfl, H1.out⟩
set_option maxRecDepth 100000 in
set_option maxHeartbeats 3200000 in
theorem spropose_slot (N g : Nat) (ep : Int) (am : Option Addr) (cm : Nat) (l : List Int) (v : Int) (ps : List Pl) (s : Int) (r : Rq) (hb : r.b < 18446744073709551616) (hr : rqE r = 0) (w : World) (h : LgM w N g ep am cm l v ps) (hl : 0 < l.length) (he : 0 ≤ ep ∧ ep ≤ 60) (hs : s ≤ 4 * ep ∨ 4 * ep + 4 < s) :
    Calls Try.prog 26 #[.pointer (some ⟨g, 0, none⟩), .int .i64 s, .agg #[.int .i64 r.c, .int .i64 r.st, .int .i64 r.k, .string r.key, .float .f64 r.b, .int .i64 r.id]] w fun e w' => e = .returned (.int .i64 14) ∧ Below w.heap.size w w' := by
  have H0 : Hid (RqAt (w.alloc (.cells #[.int .i64 r.c, .int .i64 r.st, .int .i64 r.k, .string r.key, .float .f64 r.b, .int .i64 r.id] 43)) w.heap.size r ∧ Below w.heap.size w (w.alloc (.cells #[.int .i64 r.c, .int .i64 r.st, .int .i64 r.k, .string r.key, .float .f64 r.b, .int .i64 r.id] 43))) := hid ⟨heap_alloc_last w _, (Below.refl _ _).alloc (Nat.le_refl _) _⟩
  obtain ⟨⟨q0, q1⟩, q2, q3, q4, q5⟩ := H0.out.1.cells
  have HF : Hid (∀ u : World, Below w.heap.size w u → Calls Try.prog 47 #[.pointer (some ⟨g, 0, none⟩), .int .i64 s, .agg #[.int .i64 r.c, .int .i64 r.st, .int .i64 r.k, .string r.key, .float .f64 r.b, .int .i64 r.id]] u fun e w' => e = .returned (.tuple #[.pointer none, .string ⟨#[]⟩, .int .i64 14]) ∧ Below u.heap.size u w') := hid (fun u hu => sfind_slot g ep am cm l v ps s r hb hr u (h.at_.keep hu) hl he hs)
  clear hb hr h hl he hs
  go_enter Try.func26, Try.ntmps26
  go_wp2_with (first
    | (go_at_call 47; go_must (refine (HF.out _ H0.out.2).mono ?_); rintro e w1 ⟨rfl, hb1⟩; have H1 := hid (H0.out.2.trans (hb1.mono H0.out.2.size)); clear hb1 q0 q1 q2 q3 q4 q5))
  go_ret
  exact ⟨rfl, H1.out⟩
set_option maxRecDepth 100000 in
set_option maxHeartbeats 3200000 in
theorem spropose_same (N g : Nat) (ep : Int) (am : Option Addr) (cm : Nat) (l : List Int) (v : Int) (ps : List Pl) (i : Nat) (p : Pl) (r : Rq) (hb : r.b < 18446744073709551616) (hr : rqE r = 0) (w : World) (h : LgM w N g ep am cm l v ps) (hl : 0 < l.length) (he : 0 ≤ ep ∧ ep ≤ 60) (hi : ps[i]? = some p) (hz : p.pro.size ≠ 0) (hq : p.pro = rqT r) :
    Calls Try.prog 26 #[.pointer (some ⟨g, 0, none⟩), .int .i64 (4 * ep + 1 + (i : Int)), .agg #[.int .i64 r.c, .int .i64 r.st, .int .i64 r.k, .string r.key, .float .f64 r.b, .int .i64 r.id]] w fun e w' => e = .returned (.int .i64 7) ∧ Below w.heap.size w w' := by
  have hi4 : i < 4 := by have := (List.getElem?_eq_some_iff.1 hi).1; rw [h.at_.four] at this; exact this
  have H0 : Hid (RqAt (w.alloc (.cells #[.int .i64 r.c, .int .i64 r.st, .int .i64 r.k, .string r.key, .float .f64 r.b, .int .i64 r.id] 43)) w.heap.size r ∧ Below w.heap.size w (w.alloc (.cells #[.int .i64 r.c, .int .i64 r.st, .int .i64 r.k, .string r.key, .float .f64 r.b, .int .i64 r.id] 43))) := hid ⟨heap_alloc_last w _, (Below.refl _ _).alloc (Nat.le_refl _) _⟩
  obtain ⟨⟨q0, q1⟩, q2, q3, q4, q5⟩ := H0.out.1.cells
  have HF : Hid (∀ u : World, Below w.heap.size w u → Calls Try.prog 47 #[.pointer (some ⟨g, 0, none⟩), .int .i64 (4 * ep + 1 + (i : Int)), .agg #[.int .i64 r.c, .int .i64 r.st, .int .i64 r.k, .string r.key, .float .f64 r.b, .int .i64 r.id]] u fun e w' => e = .returned (.tuple #[.pointer (some ⟨g, 3 + i * 43, none⟩), .string (rqT r), .int .i64 0]) ∧ Below u.heap.size u w') := hid (fun u hu => sfind_yes g ep am cm l v ps i r hb hr u (h.at_.keep hu) hl he hi4)
  have HY : Hid (∀ u, Below w.heap.size w u → u.cell? ⟨g, 3 + i * 43, none⟩ = some (.string p.pro)) := hid (fun u hu => pro_of (h.at_.keep hu) hi)
  have hE := toList_cons hz
  have hbe : (p.pro.toList == (rqT r).toList) = true := by rw [hq]; simp
  clear hq
  generalize rqT r = T at *
  generalize 4 * ep + 1 + (i : Int) = s at HF ⊢
  clear h hl he hi hi4 hz hb hr
  go_enter Try.func26, Try.ntmps26
  go_wp2_with (first
    | (go_at_call 47; go_must (refine (HF.out _ H0.out.2).mono ?_); rintro e w1 ⟨rfl, hb1⟩; have H1 := hid (H0.out.2.trans (hb1.mono H0.out.2.size)); clear hb1 q0 q1 q2 q3 q4 q5; have y0 := HY.out _ H1.out))
  go_ret
  exact ⟨rfl, H1.out⟩
set_option maxRecDepth 100000 in
set_option maxHeartbeats 3200000 in
theorem spropose_other (N g : Nat) (ep : Int) (am : Option Addr) (cm : Nat) (l : List Int) (v : Int) (ps : List Pl) (i : Nat) (p : Pl) (r : Rq) (hb : r.b < 18446744073709551616) (hr : rqE r = 0) (w : World) (h : LgM w N g ep am cm l v ps) (hl : 0 < l.length) (he : 0 ≤ ep ∧ ep ≤ 60) (hi : ps[i]? = some p) (hz : p.pro.size ≠ 0) (hq : p.pro ≠ rqT r) :
    Calls Try.prog 26 #[.pointer (some ⟨g, 0, none⟩), .int .i64 (4 * ep + 1 + (i : Int)), .agg #[.int .i64 r.c, .int .i64 r.st, .int .i64 r.k, .string r.key, .float .f64 r.b, .int .i64 r.id]] w fun e w' => e = .returned (.int .i64 22) ∧ Below w.heap.size w w' := by
  have hi4 : i < 4 := by have := (List.getElem?_eq_some_iff.1 hi).1; rw [h.at_.four] at this; exact this
  have H0 : Hid (RqAt (w.alloc (.cells #[.int .i64 r.c, .int .i64 r.st, .int .i64 r.k, .string r.key, .float .f64 r.b, .int .i64 r.id] 43)) w.heap.size r ∧ Below w.heap.size w (w.alloc (.cells #[.int .i64 r.c, .int .i64 r.st, .int .i64 r.k, .string r.key, .float .f64 r.b, .int .i64 r.id] 43))) := hid ⟨heap_alloc_last w _, (Below.refl _ _).alloc (Nat.le_refl _) _⟩
  obtain ⟨⟨q0, q1⟩, q2, q3, q4, q5⟩ := H0.out.1.cells
  have HF : Hid (∀ u : World, Below w.heap.size w u → Calls Try.prog 47 #[.pointer (some ⟨g, 0, none⟩), .int .i64 (4 * ep + 1 + (i : Int)), .agg #[.int .i64 r.c, .int .i64 r.st, .int .i64 r.k, .string r.key, .float .f64 r.b, .int .i64 r.id]] u fun e w' => e = .returned (.tuple #[.pointer (some ⟨g, 3 + i * 43, none⟩), .string (rqT r), .int .i64 0]) ∧ Below u.heap.size u w') := hid (fun u hu => sfind_yes g ep am cm l v ps i r hb hr u (h.at_.keep hu) hl he hi4)
  have HY : Hid (∀ u, Below w.heap.size w u → u.cell? ⟨g, 3 + i * 43, none⟩ = some (.string p.pro)) := hid (fun u hu => pro_of (h.at_.keep hu) hi)
  have hE := toList_cons hz
  have hbe := get_beq hq
  clear hq
  generalize rqT r = T at *
  generalize 4 * ep + 1 + (i : Int) = s at HF ⊢
  clear h hl he hi hi4 hz hb hr
  go_enter Try.func26, Try.ntmps26
  go_wp2_with (first
    | (go_at_call 47; go_must (refine (HF.out _ H0.out.2).mono ?_); rintro e w1 ⟨rfl, hb1⟩; have H1 := hid (H0.out.2.trans (hb1.mono H0.out.2.size)); clear hb1 q0 q1 q2 q3 q4 q5; have y0 := HY.out _ H1.out))
  go_ret
  exact ⟨rfl, H1.out⟩
set_option maxRecDepth 100000 in
set_option maxHeartbeats 3200000 in
theorem spropose_new (N g : Nat) (ep : Int) (am : Option Addr) (cm : Nat) (l : List Int) (v : Int) (ps : List Pl) (i : Nat) (p : Pl) (r : Rq) (hb : r.b < 18446744073709551616) (hr : rqE r = 0) (w : World) (h : LgM w N g ep am cm l v ps) (hl : 0 < l.length) (he : 0 ≤ ep ∧ ep ≤ 60) (hi : ps[i]? = some p) (hlm : l.length ≤ 1000) (hv : 0 ≤ v ∧ v ≤ 15) (hz : p.pro.size = 0) :
    Calls Try.prog 26 #[.pointer (some ⟨g, 0, none⟩), .int .i64 (4 * ep + 1 + (i : Int)), .agg #[.int .i64 r.c, .int .i64 r.st, .int .i64 r.k, .string r.key, .float .f64 r.b, .int .i64 r.id]] w fun e w' => e = .returned (.int .i64 0) ∧ SetPost w w' N g ep am cm l v ps i (setl ep l.length v (4 * ep + 1 + (i : Int)) { p.pp with pro := rqT r }) := by
  have hi4 : i < 4 := by have := (List.getElem?_eq_some_iff.1 hi).1; rw [h.at_.four] at this; exact this
  have H0 : Hid (RqAt (w.alloc (.cells #[.int .i64 r.c, .int .i64 r.st, .int .i64 r.k, .string r.key, .float .f64 r.b, .int .i64 r.id] 43)) w.heap.size r ∧ Below w.heap.size w (w.alloc (.cells #[.int .i64 r.c, .int .i64 r.st, .int .i64 r.k, .string r.key, .float .f64 r.b, .int .i64 r.id] 43))) := hid ⟨heap_alloc_last w _, (Below.refl _ _).alloc (Nat.le_refl _) _⟩
  obtain ⟨⟨q0, q1⟩, q2, q3, q4, q5⟩ := H0.out.1.cells
  have HF : Hid (∀ u : World, Below w.heap.size w u → Calls Try.prog 47 #[.pointer (some ⟨g, 0, none⟩), .int .i64 (4 * ep + 1 + (i : Int)), .agg #[.int .i64 r.c, .int .i64 r.st, .int .i64 r.k, .string r.key, .float .f64 r.b, .int .i64 r.id]] u fun e w' => e = .returned (.tuple #[.pointer (some ⟨g, 3 + i * 43, none⟩), .string (rqT r), .int .i64 0]) ∧ Below u.heap.size u w') := hid (fun u hu => sfind_yes g ep am cm l v ps i r hb hr u (h.at_.keep hu) hl he hi4)
  have HY : Hid (∀ u, Below w.heap.size w u → u.cell? ⟨g, 3 + i * 43, none⟩ = some (.string p.pro)) := hid (fun u hu => pro_of (h.at_.keep hu) hi)
  have hE := toList_nil hz
  have HLen : Hid ((lgC ep (.slice am l.length cm) v ps).length = 175 ∧ i < 4) := hid ⟨by rw [lgC]; simp [flat_len43 h.at_.ok, h.at_.four], by have := (List.getElem?_eq_some_iff.1 hi).1; rw [h.at_.four] at this; exact this⟩
  have HL : Hid (∀ u, Below w.heap.size w u → LgM u N g ep am cm l v ps) := hid (fun u hu => h.keep hu)
  have hok := h.at_.ok p (List.mem_of_getElem? hi)
  have HCt : Hid (∀ p0, ps[i]? = some p0 → ({ p with pro := rqT r } : Pl).ct.2 = p0.ct.2) := hid (fun p0 h0 => by rw [hi] at h0; cases h0; rfl)
  have HPut : Hid (∀ u w3, LgM u N g ep am cm l v ps → w3.heap[g]? = some (.cells ((lgC ep (.slice am l.length cm) v ps).set (3 + i * 43) (.string (rqT r))).toArray 81 (0, 0)) ∧ One g u w3 → LgM w3 N g ep am cm l v (ps.set i { p with pro := rqT r }) ∧ But g u w3) := hid (fun u w3 hu Hz => hu.put1V hi 0 (.string (rqT r)) (by omega) (plC_setpro p (rqT r)) ⟨hok.pre, hok.com⟩ rfl Hz)
  have HS : Hid (∀ u : World, LgM u N g ep am cm l v (ps.set i { p with pro := rqT r }) → Calls Try.prog 48 #[.pointer (some ⟨g, 0, none⟩), .int .i64 (4 * ep + 1 + (i : Int))] u fun e w' => e = .returned (.tuple #[]) ∧ SetPost u w' N g ep am cm l v (ps.set i { p with pro := rqT r }) i (setl ep l.length v (4 * ep + 1 + (i : Int)) { p.pp with pro := rqT r })) := hid (fun u hu => ssettle_any N g ep am cm l v (ps.set i { p with pro := rqT r }) i { p with pro := rqT r } u hu hl hlm he hv (set_get _ hi) (rqT_sz hr).2)
  generalize setl ep l.length v (4 * ep + 1 + (i : Int)) { p.pp with pro := rqT r } = res at HS ⊢
  generalize hpe : ({ p with pro := rqT r } : Pl) = p' at HPut HS HCt
  generalize rqT r = T at *
  generalize 4 * ep + 1 + (i : Int) = s at HF HS ⊢
  clear h hl he hi hi4 hz hb hr hlm hv hpe hok
  go_enter Try.func26, Try.ntmps26
  go_wp2_with (first
    | (go_at_call 47; go_must (refine (HF.out _ H0.out.2).mono ?_); rintro e w1 ⟨rfl, hb1⟩; have H1 := hid (H0.out.2.trans (hb1.mono H0.out.2.size)); clear hb1 q0 q1 q2 q3 q4 q5; have y0 := HY.out _ H1.out; have HM1 := hid (HL.out _ H1.out))
    | (refine wl_storeV rfl 9 _ _ rfl g (3 + i * 43) rfl (.string T) rfl rfl rfl (lgC ep (.slice am l.length cm) v ps) 81 HM1.out.at_.blk (by rw [HLen.out.1]; have := HLen.out.2; omega) (by kernel_rfl) ?_; intro w2 Hz; have H2 := hid (HPut.out _ w2 HM1.out Hz.out); clear Hz y0)
    | (go_at_call 48; go_must (refine (HS.out _ H2.out.1).mono ?_); rintro e w3 ⟨rfl, hp3⟩; have H3 := hid hp3; clear hp3))
  go_ret
  exact ⟨rfl, SetPost.mk2 ((But.of H1.out).trans H2.out.2) HCt.out H3.out⟩
end Go.Proofs.Ytohhlolmojeomaa

/- Prepare, Commit. -/
namespace Go.Proofs.Ytohhlolmojeomaa
open Go.RowKit

set_option maxRecDepth 100000 in
set_option maxHeartbeats 3200000 in
theorem sprepare_nil (s fr : Int) (r : Rq) (x : Int × ByteArray) (hb : r.b < 18446744073709551616) (w : World) :
    Calls Try.prog 27 #[.pointer none, .int .i64 fr, .int .i64 s, .agg #[.int .i64 r.c, .int .i64 r.st, .int .i64 r.k, .string r.key, .float .f64 r.b, .int .i64 r.id], .agg #[.int .i64 x.1, .string x.2]] w fun e w' => e = .returned (.int .i64 1) ∧ Below w.heap.size w w' := by
  have H0 : Hid (RqAt ((w.alloc (.cells #[.int .i64 r.c, .int .i64 r.st, .int .i64 r.k, .string r.key, .float .f64 r.b, .int .i64 r.id] 43)).alloc (.cells #[.int .i64 x.1, .string x.2] 67)) w.heap.size r ∧ Below w.heap.size w ((w.alloc (.cells #[.int .i64 r.c, .int .i64 r.st, .int .i64 r.k, .string r.key, .float .f64 r.b, .int .i64 r.id] 43)).alloc (.cells #[.int .i64 x.1, .string x.2] 67))) := hid ⟨(Below.heap_alloc _ _ _ (by simp)).trans (heap_alloc_last w _), ((Below.refl _ _).alloc (Nat.le_refl _) _).alloc (by simp) _⟩
  have HX0 : Hid (BxAt ((w.alloc (.cells #[.int .i64 r.c, .int .i64 r.st, .int .i64 r.k, .string r.key, .float .f64 r.b, .int .i64 r.id] 43)).alloc (.cells #[.int .i64 x.1, .string x.2] 67)) (w.heap.size + 1) [.int .i64 x.1, .string x.2] 67) := hid (snd_alloc _ _ _)
  obtain ⟨⟨q0, q1⟩, q2, q3, q4, q5⟩ := H0.out.1.cells
  have HF : Hid (∀ u : World, Below w.heap.size w u → Calls Try.prog 49 #[.pointer none, .int .i64 fr, .int .i64 s, .agg #[.int .i64 r.c, .int .i64 r.st, .int .i64 r.k, .string r.key, .float .f64 r.b, .int .i64 r.id]] u fun e w' => e = .returned (.tuple #[.pointer none, .string ⟨#[]⟩, .int .i64 1]) ∧ Below u.heap.size u w') := hid (fun u hu => sfindOf_nil s fr r hb u)
  clear hb
  go_enter Try.func27, Try.ntmps27
  go_wp2_with (first
    | (go_at_call 49; go_must (refine (HF.out _ H0.out.2).mono ?_); rintro e w1 ⟨rfl, hb1⟩; have H1 := hid (H0.out.2.trans (hb1.mono H0.out.2.size)); skip; clear hb1 q0 q1 q2 q3 q4 q5))
  go_ret
  exact ⟨rfl, H1.out⟩
set_option maxRecDepth 100000 in
set_option maxHeartbeats 3200000 in
theorem sprepare_arg (N g : Nat) (ep : Int) (am : Option Addr) (cm : Nat) (l : List Int) (v : Int) (ps : List Pl) (s fr : Int) (r : Rq) (x : Int × ByteArray) (hb : r.b < 18446744073709551616) (hr : rqE r ≠ 0) (w : World) (h : LgM w N g ep am cm l v ps) (hl : 0 < l.length) :
    Calls Try.prog 27 #[.pointer (some ⟨g, 0, none⟩), .int .i64 fr, .int .i64 s, .agg #[.int .i64 r.c, .int .i64 r.st, .int .i64 r.k, .string r.key, .float .f64 r.b, .int .i64 r.id], .agg #[.int .i64 x.1, .string x.2]] w fun e w' => e = .returned (.int .i64 1) ∧ Below w.heap.size w w' := by
  have H0 : Hid (RqAt ((w.alloc (.cells #[.int .i64 r.c, .int .i64 r.st, .int .i64 r.k, .string r.key, .float .f64 r.b, .int .i64 r.id] 43)).alloc (.cells #[.int .i64 x.1, .string x.2] 67)) w.heap.size r ∧ Below w.heap.size w ((w.alloc (.cells #[.int .i64 r.c, .int .i64 r.st, .int .i64 r.k, .string r.key, .float .f64 r.b, .int .i64 r.id] 43)).alloc (.cells #[.int .i64 x.1, .string x.2] 67))) := hid ⟨(Below.heap_alloc _ _ _ (by simp)).trans (heap_alloc_last w _), ((Below.refl _ _).alloc (Nat.le_refl _) _).alloc (by simp) _⟩
  have HX0 : Hid (BxAt ((w.alloc (.cells #[.int .i64 r.c, .int .i64 r.st, .int .i64 r.k, .string r.key, .float .f64 r.b, .int .i64 r.id] 43)).alloc (.cells #[.int .i64 x.1, .string x.2] 67)) (w.heap.size + 1) [.int .i64 x.1, .string x.2] 67) := hid (snd_alloc _ _ _)
  obtain ⟨⟨q0, q1⟩, q2, q3, q4, q5⟩ := H0.out.1.cells
  have HF : Hid (∀ u : World, Below w.heap.size w u → Calls Try.prog 49 #[.pointer (some ⟨g, 0, none⟩), .int .i64 fr, .int .i64 s, .agg #[.int .i64 r.c, .int .i64 r.st, .int .i64 r.k, .string r.key, .float .f64 r.b, .int .i64 r.id]] u fun e w' => e = .returned (.tuple #[.pointer none, .string ⟨#[]⟩, .int .i64 1]) ∧ Below u.heap.size u w') := hid (fun u hu => sfindOf_arg g ep am cm l v ps s fr r hb u (h.at_.keep hu) hl hr)
  clear hb hr h hl
  go_enter Try.func27, Try.ntmps27
  go_wp2_with (first
    | (go_at_call 49; go_must (refine (HF.out _ H0.out.2).mono ?_); rintro e w1 ⟨rfl, hb1⟩; have H1 := hid (H0.out.2.trans (hb1.mono H0.out.2.size)); skip; clear hb1 q0 q1 q2 q3 q4 q5))
  go_ret
  exact ⟨rfl, H1.out⟩
set_option maxRecDepth 100000 in
set_option maxHeartbeats 3200000 in
theorem sprepare_slot (N g : Nat) (ep : Int) (am : Option Addr) (cm : Nat) (l : List Int) (v : Int) (ps : List Pl) (s fr : Int) (r : Rq) (x : Int × ByteArray) (hb : r.b < 18446744073709551616) (hr : rqE r = 0) (w : World) (h : LgM w N g ep am cm l v ps) (hl : 0 < l.length) (he : 0 ≤ ep ∧ ep ≤ 60) (hs : s ≤ 4 * ep ∨ 4 * ep + 4 < s) :
    Calls Try.prog 27 #[.pointer (some ⟨g, 0, none⟩), .int .i64 fr, .int .i64 s, .agg #[.int .i64 r.c, .int .i64 r.st, .int .i64 r.k, .string r.key, .float .f64 r.b, .int .i64 r.id], .agg #[.int .i64 x.1, .string x.2]] w fun e w' => e = .returned (.int .i64 14) ∧ Below w.heap.size w w' := by
  have H0 : Hid (RqAt ((w.alloc (.cells #[.int .i64 r.c, .int .i64 r.st, .int .i64 r.k, .string r.key, .float .f64 r.b, .int .i64 r.id] 43)).alloc (.cells #[.int .i64 x.1, .string x.2] 67)) w.heap.size r ∧ Below w.heap.size w ((w.alloc (.cells #[.int .i64 r.c, .int .i64 r.st, .int .i64 r.k, .string r.key, .float .f64 r.b, .int .i64 r.id] 43)).alloc (.cells #[.int .i64 x.1, .string x.2] 67))) := hid ⟨(Below.heap_alloc _ _ _ (by simp)).trans (heap_alloc_last w _), ((Below.refl _ _).alloc (Nat.le_refl _) _).alloc (by simp) _⟩
  have HX0 : Hid (BxAt ((w.alloc (.cells #[.int .i64 r.c, .int .i64 r.st, .int .i64 r.k, .string r.key, .float .f64 r.b, .int .i64 r.id] 43)).alloc (.cells #[.int .i64 x.1, .string x.2] 67)) (w.heap.size + 1) [.int .i64 x.1, .string x.2] 67) := hid (snd_alloc _ _ _)
  obtain ⟨⟨q0, q1⟩, q2, q3, q4, q5⟩ := H0.out.1.cells
  have HF : Hid (∀ u : World, Below w.heap.size w u → Calls Try.prog 49 #[.pointer (some ⟨g, 0, none⟩), .int .i64 fr, .int .i64 s, .agg #[.int .i64 r.c, .int .i64 r.st, .int .i64 r.k, .string r.key, .float .f64 r.b, .int .i64 r.id]] u fun e w' => e = .returned (.tuple #[.pointer none, .string ⟨#[]⟩, .int .i64 14]) ∧ Below u.heap.size u w') := hid (fun u hu => sfindOf_slot g ep am cm l v ps s fr r hb u (h.at_.keep hu) hl hr he hs)
  clear hb hr h hl he hs
  go_enter Try.func27, Try.ntmps27
  go_wp2_with (first
    | (go_at_call 49; go_must (refine (HF.out _ H0.out.2).mono ?_); rintro e w1 ⟨rfl, hb1⟩; have H1 := hid (H0.out.2.trans (hb1.mono H0.out.2.size)); skip; clear hb1 q0 q1 q2 q3 q4 q5))
  go_ret
  exact ⟨rfl, H1.out⟩
set_option maxRecDepth 100000 in
set_option maxHeartbeats 3200000 in
theorem sprepare_absent (N g : Nat) (ep : Int) (am : Option Addr) (cm : Nat) (l : List Int) (v : Int) (ps : List Pl) (i : Nat) (fr : Int) (r : Rq) (x : Int × ByteArray) (hb : r.b < 18446744073709551616) (hr : rqE r = 0) (w : World) (h : LgM w N g ep am cm l v ps) (hl : 0 < l.length) (hlm : l.length ≤ 1000) (he : 0 ≤ ep ∧ ep ≤ 60) (hi : i < 4) (hh : hasM l fr = false) :
    Calls Try.prog 27 #[.pointer (some ⟨g, 0, none⟩), .int .i64 fr, .int .i64 (4 * ep + 1 + (i : Int)), .agg #[.int .i64 r.c, .int .i64 r.st, .int .i64 r.k, .string r.key, .float .f64 r.b, .int .i64 r.id], .agg #[.int .i64 x.1, .string x.2]] w fun e w' => e = .returned (.int .i64 8) ∧ Below w.heap.size w w' := by
  have H0 : Hid (RqAt ((w.alloc (.cells #[.int .i64 r.c, .int .i64 r.st, .int .i64 r.k, .string r.key, .float .f64 r.b, .int .i64 r.id] 43)).alloc (.cells #[.int .i64 x.1, .string x.2] 67)) w.heap.size r ∧ Below w.heap.size w ((w.alloc (.cells #[.int .i64 r.c, .int .i64 r.st, .int .i64 r.k, .string r.key, .float .f64 r.b, .int .i64 r.id] 43)).alloc (.cells #[.int .i64 x.1, .string x.2] 67))) := hid ⟨(Below.heap_alloc _ _ _ (by simp)).trans (heap_alloc_last w _), ((Below.refl _ _).alloc (Nat.le_refl _) _).alloc (by simp) _⟩
  have HX0 : Hid (BxAt ((w.alloc (.cells #[.int .i64 r.c, .int .i64 r.st, .int .i64 r.k, .string r.key, .float .f64 r.b, .int .i64 r.id] 43)).alloc (.cells #[.int .i64 x.1, .string x.2] 67)) (w.heap.size + 1) [.int .i64 x.1, .string x.2] 67) := hid (snd_alloc _ _ _)
  obtain ⟨⟨q0, q1⟩, q2, q3, q4, q5⟩ := H0.out.1.cells
  have HF : Hid (∀ u : World, Below w.heap.size w u → Calls Try.prog 49 #[.pointer (some ⟨g, 0, none⟩), .int .i64 fr, .int .i64 (4 * ep + 1 + (i : Int)), .agg #[.int .i64 r.c, .int .i64 r.st, .int .i64 r.k, .string r.key, .float .f64 r.b, .int .i64 r.id]] u fun e w' => e = .returned (.tuple #[.pointer none, .string ⟨#[]⟩, .int .i64 8]) ∧ Below u.heap.size u w') := hid (fun u hu => sfindOf_absent g ep am cm l v ps i fr r hb u (h.at_.keep hu) hl (by unfold maxLen; omega) hr he hi hh)
  clear hb hr h hl he hi hh
  generalize 4 * ep + 1 + (i : Int) = s at HF ⊢
  go_enter Try.func27, Try.ntmps27
  go_wp2_with (first
    | (go_at_call 49; go_must (refine (HF.out _ H0.out.2).mono ?_); rintro e w1 ⟨rfl, hb1⟩; have H1 := hid (H0.out.2.trans (hb1.mono H0.out.2.size)); skip; clear hb1 q0 q1 q2 q3 q4 q5))
  go_ret
  exact ⟨rfl, H1.out⟩
set_option maxRecDepth 100000 in
set_option maxHeartbeats 3200000 in
theorem sprepare_sig_by (N g : Nat) (ep : Int) (am : Option Addr) (cm : Nat) (l : List Int) (v : Int) (ps : List Pl) (i : Nat) (p : Pl) (j : Nat) (_hj : j < 16) (r : Rq) (x : Int × ByteArray) (hb : r.b < 18446744073709551616) (hr : rqE r = 0) (w : World) (h : LgM w N g ep am cm l v ps) (hl : 0 < l.length) (hlm : l.length ≤ 1000) (he : 0 ≤ ep ∧ ep ≤ 60) (_hv : 0 ≤ v ∧ v ≤ 15) (hi : ps[i]? = some p) (hh : hasM l (j : Int) = true) (hx : x.1 ≠ (j : Int)) :
    Calls Try.prog 27 #[.pointer (some ⟨g, 0, none⟩), .int .i64 (j : Int), .int .i64 (4 * ep + 1 + (i : Int)), .agg #[.int .i64 r.c, .int .i64 r.st, .int .i64 r.k, .string r.key, .float .f64 r.b, .int .i64 r.id], .agg #[.int .i64 x.1, .string x.2]] w fun e w' => e = .returned (.int .i64 16) ∧ Below w.heap.size w w' := by
  have hi4 : i < 4 := by have := (List.getElem?_eq_some_iff.1 hi).1; rw [h.at_.four] at this; exact this
  have hok := h.at_.ok p (List.mem_of_getElem? hi)
  have H0 : Hid (RqAt ((w.alloc (.cells #[.int .i64 r.c, .int .i64 r.st, .int .i64 r.k, .string r.key, .float .f64 r.b, .int .i64 r.id] 43)).alloc (.cells #[.int .i64 x.1, .string x.2] 67)) w.heap.size r ∧ Below w.heap.size w ((w.alloc (.cells #[.int .i64 r.c, .int .i64 r.st, .int .i64 r.k, .string r.key, .float .f64 r.b, .int .i64 r.id] 43)).alloc (.cells #[.int .i64 x.1, .string x.2] 67))) := hid ⟨(Below.heap_alloc _ _ _ (by simp)).trans (heap_alloc_last w _), ((Below.refl _ _).alloc (Nat.le_refl _) _).alloc (by simp) _⟩
  have HX0 : Hid (BxAt ((w.alloc (.cells #[.int .i64 r.c, .int .i64 r.st, .int .i64 r.k, .string r.key, .float .f64 r.b, .int .i64 r.id] 43)).alloc (.cells #[.int .i64 x.1, .string x.2] 67)) (w.heap.size + 1) [.int .i64 x.1, .string x.2] 67) := hid (snd_alloc _ _ _)
  obtain ⟨⟨q0, q1⟩, q2, q3, q4, q5⟩ := H0.out.1.cells
  have HF : Hid (∀ u : World, Below w.heap.size w u → Calls Try.prog 49 #[.pointer (some ⟨g, 0, none⟩), .int .i64 (j : Int), .int .i64 (4 * ep + 1 + (i : Int)), .agg #[.int .i64 r.c, .int .i64 r.st, .int .i64 r.k, .string r.key, .float .f64 r.b, .int .i64 r.id]] u fun e w' => e = .returned (.tuple #[.pointer (some ⟨g, 3 + i * 43, none⟩), .string (rqT r), .int .i64 0]) ∧ Below u.heap.size u w') := hid (fun u hu => sfindOf_yes g ep am cm l v ps i (j : Int) r hb u (h.at_.keep hu) hl (by unfold maxLen; omega) hr he hi4 hh)
  obtain ⟨tx, et⟩ : ∃ tx, tx = prT ep v (4 * ep + 1 + (i : Int)) r := ⟨_, rfl⟩
  have HG : Hid (∀ u : World, SlA u g ep am cm l v ps → Calls Try.prog 50 #[.pointer (some ⟨g, 0, none⟩), .int .i64 (j : Int), .int .i64 (4 * ep + 1 + (i : Int)), .agg #[.int .i64 r.c, .int .i64 r.st, .int .i64 r.k, .string r.key, .float .f64 r.b, .int .i64 r.id]] u fun e w' => e = .returned (.agg #[.int .i64 (j : Int), .string tx]) ∧ Below u.heap.size u w') := hid (fun u hu => by rw [et]; exact ssign_any g ep am cm l v ps (j : Int) (4 * ep + 1 + (i : Int)) r hb ⟨by omega, by omega, by omega⟩ u hu)
  have HLk : Hid (∀ u, Below w.heap.size w u → LgM u N g ep am cm l v ps) := hid (fun u hu => h.keep hu)
  have hx1 : (x.1 == (j : Int)) = false := beq_eq_false_iff_ne.2 hx
  generalize 4 * ep + 1 + (i : Int) = s at HF HG ⊢
  clear h hl hlm he _hv hi hh hi4 hok hb hr hx et _hj
  go_enter Try.func27, Try.ntmps27
  go_wp2_with (first
    | (go_at_call 49; go_must (refine (HF.out _ H0.out.2).mono ?_); rintro e w1 ⟨rfl, hb1⟩; have H1 := hid (H0.out.2.trans (hb1.mono H0.out.2.size)); have HM1 : Hid (LgM w1 N g ep am cm l v ps ∧ BxAt w1 w.heap.size [.int .i64 r.c, .int .i64 r.st, .int .i64 r.k, .string r.key, .float .f64 r.b, .int .i64 r.id] 43 ∧ BxAt w1 (w.heap.size + 1) [.int .i64 x.1, .string x.2] 67) := hid ⟨HLk.out _ H1.out, (BxAt.keep H0.out.1 hb1), HX0.out.keep hb1⟩; clear hb1 q0 q1 q2 q3 q4 q5))
  obtain ⟨wd, ed⟩ : ∃ u, u = w1.drew := ⟨_, rfl⟩
  have HD : Hid (Below w.heap.size w wd) := hid (by rw [ed]; exact H1.out.drew)
  have HS : Hid (SlA wd g ep am cm l v ps ∧ BxAt wd w.heap.size [.int .i64 r.c, .int .i64 r.st, .int .i64 r.k, .string r.key, .float .f64 r.b, .int .i64 r.id] 43 ∧ BxAt wd (w.heap.size + 1) [.int .i64 x.1, .string x.2] 67) := hid (by rw [ed]; exact ⟨HM1.out.1.at_.keep (Below.refl _ _).drew, HM1.out.2.1, HM1.out.2.2⟩)
  refine wp_region_G (S := fun ww => SlA ww g ep am cm l v ps ∧ BxAt ww w.heap.size [.int .i64 r.c, .int .i64 r.st, .int .i64 r.k, .string r.key, .float .f64 r.b, .int .i64 r.id] 43 ∧ BxAt ww (w.heap.size + 1) [.int .i64 x.1, .string x.2] 67) (ex := []) (by kernel_rfl) ?_
  try (change wpAnyG _ _ _ _ _ _ _ _ _ (World.drew _))
  try rw [← ed]
  clear ed
  refine wpAnyG_take (i := 0) (v := ?v1) rfl (by kernel_rfl) (fun _ _ _ h => h) (Or.inl ⟨by rfl, ?hy1⟩) HS.out ?rest1
  case hy1 => (intro ww hS; have x0 := hS.2.2.cell 0 _ rfl; have x1 := hS.2.2.cell 1 _ rfl; go_simp; try with_reducible rfl)
  go_simp
  refine wpAnyG_take (i := 1) (v := ?v2) rfl (by kernel_rfl) (fun _ _ _ h => h) (Or.inl ⟨by rfl, ?hy2⟩) HS.out ?rest2
  case hy2 => (intro ww _; go_simp; try with_reducible rfl)
  go_simp
  refine wpAnyG_take (i := 2) (v := ?v3) rfl (by kernel_rfl) (fun _ _ _ h => h) (Or.inl ⟨by rfl, ?hy3⟩) HS.out ?rest3
  case hy3 => (intro ww _; go_simp; try with_reducible rfl)
  go_simp
  refine wpAnyG_take (i := 3) (v := ?v4) rfl (by kernel_rfl) (fun _ _ _ h => h) (Or.inl ⟨by rfl, ?hy4⟩) HS.out ?rest4
  case hy4 => (intro ww _; go_simp; try with_reducible rfl)
  go_simp
  refine wpAnyG_take (i := 4) (v := ?v5) rfl (by kernel_rfl) (fun _ _ _ h => h) (Or.inl ⟨by rfl, ?hy5⟩) HS.out ?rest5
  case hy5 => (intro ww hS; have q0 := hS.2.1.cell 0 _ rfl; have q1 := hS.2.1.cell 1 _ rfl; have q2 := hS.2.1.cell 2 _ rfl; have q3 := hS.2.1.cell 3 _ rfl; have q4 := hS.2.1.cell 4 _ rfl; have q5 := hS.2.1.cell 5 _ rfl; go_simp; try with_reducible rfl)
  go_simp
  refine wpAnyG_all (rs := [5]) (by kernel_rfl) (by simp) ?_
  intro i hi
  obtain rfl := List.mem_singleton.1 hi
  clear hi
  refine wpOp_s rfl (by rfl) (fun K hK => ?_)
  go_simp
  refine (HG.out _ HS.out.1).mono ?_
  rintro e w5 ⟨rfl, hb5⟩
  have H5 : Hid (LgM w5 N g ep am cm l v ps ∧ Below w.heap.size w w5) := hid ⟨HLk.out _ (HD.out.trans (hb5.mono HD.out.size)), HD.out.trans (hb5.mono HD.out.size)⟩
  have HS5 : Hid (SlA w5 g ep am cm l v ps ∧ BxAt w5 w.heap.size [.int .i64 r.c, .int .i64 r.st, .int .i64 r.k, .string r.key, .float .f64 r.b, .int .i64 r.id] 43 ∧ BxAt w5 (w.heap.size + 1) [.int .i64 x.1, .string x.2] 67) := hid ⟨HS.out.1.keep hb5, HS.out.2.1.keep hb5, HS.out.2.2.keep hb5⟩
  clear hb5
  refine hK _ _ ⟨fun _ => HS5.out, ?_⟩
  clear hK K
  go_simp
  refine wpAnyG_take (i := 6) (v := ?v6) rfl (by kernel_rfl) (fun _ _ _ h => h) (Or.inl ⟨by rfl, ?hy6⟩) HS5.out ?rest6
  case hy6 => (intro ww _; go_simp; try with_reducible rfl)
  go_simp
  refine wpAnyG_done (by kernel_rfl) ?_ _
  go_simp
  go_wp2
  go_ret
  exact ⟨rfl, H5.out.2⟩
set_option maxRecDepth 100000 in
set_option maxHeartbeats 3200000 in
theorem sprepare_sig_text (N g : Nat) (ep : Int) (am : Option Addr) (cm : Nat) (l : List Int) (v : Int) (ps : List Pl) (i : Nat) (p : Pl) (j : Nat) (_hj : j < 16) (r : Rq) (x : Int × ByteArray) (hb : r.b < 18446744073709551616) (hr : rqE r = 0) (w : World) (h : LgM w N g ep am cm l v ps) (hl : 0 < l.length) (hlm : l.length ≤ 1000) (he : 0 ≤ ep ∧ ep ≤ 60) (_hv : 0 ≤ v ∧ v ≤ 15) (hi : ps[i]? = some p) (hh : hasM l (j : Int) = true) (hx : x.2 ≠ prT ep v (4 * ep + 1 + (i : Int)) r) :
    Calls Try.prog 27 #[.pointer (some ⟨g, 0, none⟩), .int .i64 (j : Int), .int .i64 (4 * ep + 1 + (i : Int)), .agg #[.int .i64 r.c, .int .i64 r.st, .int .i64 r.k, .string r.key, .float .f64 r.b, .int .i64 r.id], .agg #[.int .i64 x.1, .string x.2]] w fun e w' => e = .returned (.int .i64 16) ∧ Below w.heap.size w w' := by
  have hi4 : i < 4 := by have := (List.getElem?_eq_some_iff.1 hi).1; rw [h.at_.four] at this; exact this
  have hok := h.at_.ok p (List.mem_of_getElem? hi)
  have H0 : Hid (RqAt ((w.alloc (.cells #[.int .i64 r.c, .int .i64 r.st, .int .i64 r.k, .string r.key, .float .f64 r.b, .int .i64 r.id] 43)).alloc (.cells #[.int .i64 x.1, .string x.2] 67)) w.heap.size r ∧ Below w.heap.size w ((w.alloc (.cells #[.int .i64 r.c, .int .i64 r.st, .int .i64 r.k, .string r.key, .float .f64 r.b, .int .i64 r.id] 43)).alloc (.cells #[.int .i64 x.1, .string x.2] 67))) := hid ⟨(Below.heap_alloc _ _ _ (by simp)).trans (heap_alloc_last w _), ((Below.refl _ _).alloc (Nat.le_refl _) _).alloc (by simp) _⟩
  have HX0 : Hid (BxAt ((w.alloc (.cells #[.int .i64 r.c, .int .i64 r.st, .int .i64 r.k, .string r.key, .float .f64 r.b, .int .i64 r.id] 43)).alloc (.cells #[.int .i64 x.1, .string x.2] 67)) (w.heap.size + 1) [.int .i64 x.1, .string x.2] 67) := hid (snd_alloc _ _ _)
  obtain ⟨⟨q0, q1⟩, q2, q3, q4, q5⟩ := H0.out.1.cells
  have HF : Hid (∀ u : World, Below w.heap.size w u → Calls Try.prog 49 #[.pointer (some ⟨g, 0, none⟩), .int .i64 (j : Int), .int .i64 (4 * ep + 1 + (i : Int)), .agg #[.int .i64 r.c, .int .i64 r.st, .int .i64 r.k, .string r.key, .float .f64 r.b, .int .i64 r.id]] u fun e w' => e = .returned (.tuple #[.pointer (some ⟨g, 3 + i * 43, none⟩), .string (rqT r), .int .i64 0]) ∧ Below u.heap.size u w') := hid (fun u hu => sfindOf_yes g ep am cm l v ps i (j : Int) r hb u (h.at_.keep hu) hl (by unfold maxLen; omega) hr he hi4 hh)
  obtain ⟨tx, et⟩ : ∃ tx, tx = prT ep v (4 * ep + 1 + (i : Int)) r := ⟨_, rfl⟩
  have HG : Hid (∀ u : World, SlA u g ep am cm l v ps → Calls Try.prog 50 #[.pointer (some ⟨g, 0, none⟩), .int .i64 (j : Int), .int .i64 (4 * ep + 1 + (i : Int)), .agg #[.int .i64 r.c, .int .i64 r.st, .int .i64 r.k, .string r.key, .float .f64 r.b, .int .i64 r.id]] u fun e w' => e = .returned (.agg #[.int .i64 (j : Int), .string tx]) ∧ Below u.heap.size u w') := hid (fun u hu => by rw [et]; exact ssign_any g ep am cm l v ps (j : Int) (4 * ep + 1 + (i : Int)) r hb ⟨by omega, by omega, by omega⟩ u hu)
  have HLk : Hid (∀ u, Below w.heap.size w u → LgM u N g ep am cm l v ps) := hid (fun u hu => h.keep hu)
  rw [← et] at hx
  have hx2 := get_beq hx
  generalize 4 * ep + 1 + (i : Int) = s at HF HG ⊢
  clear h hl hlm he _hv hi hh hi4 hok hb hr hx et _hj
  go_enter Try.func27, Try.ntmps27
  go_wp2_with (first
    | (go_at_call 49; go_must (refine (HF.out _ H0.out.2).mono ?_); rintro e w1 ⟨rfl, hb1⟩; have H1 := hid (H0.out.2.trans (hb1.mono H0.out.2.size)); have HM1 : Hid (LgM w1 N g ep am cm l v ps ∧ BxAt w1 w.heap.size [.int .i64 r.c, .int .i64 r.st, .int .i64 r.k, .string r.key, .float .f64 r.b, .int .i64 r.id] 43 ∧ BxAt w1 (w.heap.size + 1) [.int .i64 x.1, .string x.2] 67) := hid ⟨HLk.out _ H1.out, (BxAt.keep H0.out.1 hb1), HX0.out.keep hb1⟩; clear hb1 q0 q1 q2 q3 q4 q5))
  obtain ⟨wd, ed⟩ : ∃ u, u = w1.drew := ⟨_, rfl⟩
  have HD : Hid (Below w.heap.size w wd) := hid (by rw [ed]; exact H1.out.drew)
  have HS : Hid (SlA wd g ep am cm l v ps ∧ BxAt wd w.heap.size [.int .i64 r.c, .int .i64 r.st, .int .i64 r.k, .string r.key, .float .f64 r.b, .int .i64 r.id] 43 ∧ BxAt wd (w.heap.size + 1) [.int .i64 x.1, .string x.2] 67) := hid (by rw [ed]; exact ⟨HM1.out.1.at_.keep (Below.refl _ _).drew, HM1.out.2.1, HM1.out.2.2⟩)
  refine wp_region_G (S := fun ww => SlA ww g ep am cm l v ps ∧ BxAt ww w.heap.size [.int .i64 r.c, .int .i64 r.st, .int .i64 r.k, .string r.key, .float .f64 r.b, .int .i64 r.id] 43 ∧ BxAt ww (w.heap.size + 1) [.int .i64 x.1, .string x.2] 67) (ex := []) (by kernel_rfl) ?_
  try (change wpAnyG _ _ _ _ _ _ _ _ _ (World.drew _))
  try rw [← ed]
  clear ed
  refine wpAnyG_take (i := 0) (v := ?v1) rfl (by kernel_rfl) (fun _ _ _ h => h) (Or.inl ⟨by rfl, ?hy1⟩) HS.out ?rest1
  case hy1 => (intro ww hS; have x0 := hS.2.2.cell 0 _ rfl; have x1 := hS.2.2.cell 1 _ rfl; go_simp; try with_reducible rfl)
  go_simp
  refine wpAnyG_take (i := 1) (v := ?v2) rfl (by kernel_rfl) (fun _ _ _ h => h) (Or.inl ⟨by rfl, ?hy2⟩) HS.out ?rest2
  case hy2 => (intro ww _; go_simp; try with_reducible rfl)
  go_simp
  refine wpAnyG_take (i := 2) (v := ?v3) rfl (by kernel_rfl) (fun _ _ _ h => h) (Or.inl ⟨by rfl, ?hy3⟩) HS.out ?rest3
  case hy3 => (intro ww _; go_simp; try with_reducible rfl)
  go_simp
  refine wpAnyG_take (i := 3) (v := ?v4) rfl (by kernel_rfl) (fun _ _ _ h => h) (Or.inl ⟨by rfl, ?hy4⟩) HS.out ?rest4
  case hy4 => (intro ww _; go_simp; try with_reducible rfl)
  go_simp
  refine wpAnyG_take (i := 4) (v := ?v5) rfl (by kernel_rfl) (fun _ _ _ h => h) (Or.inl ⟨by rfl, ?hy5⟩) HS.out ?rest5
  case hy5 => (intro ww hS; have q0 := hS.2.1.cell 0 _ rfl; have q1 := hS.2.1.cell 1 _ rfl; have q2 := hS.2.1.cell 2 _ rfl; have q3 := hS.2.1.cell 3 _ rfl; have q4 := hS.2.1.cell 4 _ rfl; have q5 := hS.2.1.cell 5 _ rfl; go_simp; try with_reducible rfl)
  go_simp
  refine wpAnyG_all (rs := [5]) (by kernel_rfl) (by simp) ?_
  intro i hi
  obtain rfl := List.mem_singleton.1 hi
  clear hi
  refine wpOp_s rfl (by rfl) (fun K hK => ?_)
  go_simp
  refine (HG.out _ HS.out.1).mono ?_
  rintro e w5 ⟨rfl, hb5⟩
  have H5 : Hid (LgM w5 N g ep am cm l v ps ∧ Below w.heap.size w w5) := hid ⟨HLk.out _ (HD.out.trans (hb5.mono HD.out.size)), HD.out.trans (hb5.mono HD.out.size)⟩
  have HS5 : Hid (SlA w5 g ep am cm l v ps ∧ BxAt w5 w.heap.size [.int .i64 r.c, .int .i64 r.st, .int .i64 r.k, .string r.key, .float .f64 r.b, .int .i64 r.id] 43 ∧ BxAt w5 (w.heap.size + 1) [.int .i64 x.1, .string x.2] 67) := hid ⟨HS.out.1.keep hb5, HS.out.2.1.keep hb5, HS.out.2.2.keep hb5⟩
  clear hb5
  refine hK _ _ ⟨fun _ => HS5.out, ?_⟩
  clear hK K
  go_simp
  refine wpAnyG_take (i := 6) (v := ?v6) rfl (by kernel_rfl) (fun _ _ _ h => h) (Or.inl ⟨by rfl, ?hy6⟩) HS5.out ?rest6
  case hy6 => (intro ww _; go_simp; try with_reducible rfl)
  go_simp
  refine wpAnyG_done (by kernel_rfl) ?_ _
  go_simp
  go_wp2
  go_ret
  exact ⟨rfl, H5.out.2⟩
set_option maxRecDepth 100000 in
set_option maxHeartbeats 3200000 in
theorem sprepare_same (N g : Nat) (ep : Int) (am : Option Addr) (cm : Nat) (l : List Int) (v : Int) (ps : List Pl) (i : Nat) (p : Pl) (j : Nat) (_hj : j < 16) (r : Rq) (x : Int × ByteArray) (hb : r.b < 18446744073709551616) (hr : rqE r = 0) (w : World) (h : LgM w N g ep am cm l v ps) (hl : 0 < l.length) (hlm : l.length ≤ 1000) (he : 0 ≤ ep ∧ ep ≤ 60) (_hv : 0 ≤ v ∧ v ≤ 15) (hi : ps[i]? = some p) (hh : hasM l (j : Int) = true) (hx : x = ((j : Int), prT ep v (4 * ep + 1 + (i : Int)) r)) (t0 : ByteArray) (h0 : p.pre[j]? = some t0) (hz : t0.size ≠ 0) :
    Calls Try.prog 27 #[.pointer (some ⟨g, 0, none⟩), .int .i64 (j : Int), .int .i64 (4 * ep + 1 + (i : Int)), .agg #[.int .i64 r.c, .int .i64 r.st, .int .i64 r.k, .string r.key, .float .f64 r.b, .int .i64 r.id], .agg #[.int .i64 x.1, .string x.2]] w fun e w' => e = .returned (.int .i64 7) ∧ Below w.heap.size w w' := by
  have hi4 : i < 4 := by have := (List.getElem?_eq_some_iff.1 hi).1; rw [h.at_.four] at this; exact this
  have hok := h.at_.ok p (List.mem_of_getElem? hi)
  have H0 : Hid (RqAt ((w.alloc (.cells #[.int .i64 r.c, .int .i64 r.st, .int .i64 r.k, .string r.key, .float .f64 r.b, .int .i64 r.id] 43)).alloc (.cells #[.int .i64 x.1, .string x.2] 67)) w.heap.size r ∧ Below w.heap.size w ((w.alloc (.cells #[.int .i64 r.c, .int .i64 r.st, .int .i64 r.k, .string r.key, .float .f64 r.b, .int .i64 r.id] 43)).alloc (.cells #[.int .i64 x.1, .string x.2] 67))) := hid ⟨(Below.heap_alloc _ _ _ (by simp)).trans (heap_alloc_last w _), ((Below.refl _ _).alloc (Nat.le_refl _) _).alloc (by simp) _⟩
  have HX0 : Hid (BxAt ((w.alloc (.cells #[.int .i64 r.c, .int .i64 r.st, .int .i64 r.k, .string r.key, .float .f64 r.b, .int .i64 r.id] 43)).alloc (.cells #[.int .i64 x.1, .string x.2] 67)) (w.heap.size + 1) [.int .i64 x.1, .string x.2] 67) := hid (snd_alloc _ _ _)
  obtain ⟨⟨q0, q1⟩, q2, q3, q4, q5⟩ := H0.out.1.cells
  have HF : Hid (∀ u : World, Below w.heap.size w u → Calls Try.prog 49 #[.pointer (some ⟨g, 0, none⟩), .int .i64 (j : Int), .int .i64 (4 * ep + 1 + (i : Int)), .agg #[.int .i64 r.c, .int .i64 r.st, .int .i64 r.k, .string r.key, .float .f64 r.b, .int .i64 r.id]] u fun e w' => e = .returned (.tuple #[.pointer (some ⟨g, 3 + i * 43, none⟩), .string (rqT r), .int .i64 0]) ∧ Below u.heap.size u w') := hid (fun u hu => sfindOf_yes g ep am cm l v ps i (j : Int) r hb u (h.at_.keep hu) hl (by unfold maxLen; omega) hr he hi4 hh)
  obtain ⟨tx, et⟩ : ∃ tx, tx = prT ep v (4 * ep + 1 + (i : Int)) r := ⟨_, rfl⟩
  have HG : Hid (∀ u : World, SlA u g ep am cm l v ps → Calls Try.prog 50 #[.pointer (some ⟨g, 0, none⟩), .int .i64 (j : Int), .int .i64 (4 * ep + 1 + (i : Int)), .agg #[.int .i64 r.c, .int .i64 r.st, .int .i64 r.k, .string r.key, .float .f64 r.b, .int .i64 r.id]] u fun e w' => e = .returned (.agg #[.int .i64 (j : Int), .string tx]) ∧ Below u.heap.size u w') := hid (fun u hu => by rw [et]; exact ssign_any g ep am cm l v ps (j : Int) (4 * ep + 1 + (i : Int)) r hb ⟨by omega, by omega, by omega⟩ u hu)
  have HLk : Hid (∀ u, Below w.heap.size w u → LgM u N g ep am cm l v ps) := hid (fun u hu => h.keep hu)
  rw [← et] at hx
  have hx1 : (x.1 == (j : Int)) = true := by rw [hx]; simp
  have hx2 : (x.2.toList == tx.toList) = true := by rw [hx]; simp
  have HN : Hid (∀ (u : World) (o : Nat), o = 3 + i * 43 + (1 + j) → LgM u N g ep am cm l v ps → Calls Try.prog 51 #[.pointer (some ⟨g, 0, none⟩), .pointer (some ⟨g, o, none⟩), .string (rqT r), .int .i64 (4 * ep + 1 + (i : Int))] u fun e w' => e = .returned (.int .i64 7) ∧ w' = u) := hid (fun u o ho hu => snote_same N g ep am cm l v ps i p u hu hi (1 + j) o ho (by omega) t0 (rqT r) (plC_pre j t0 h0) hz _)
  generalize 4 * ep + 1 + (i : Int) = s at HF HG HN ⊢
  have hj0 : (0 : Int) ≤ (j : Int) := Int.natCast_nonneg _
  have hj1 : (j : Int) < 16 := by omega
  clear h hl hlm he _hv hi hh hi4 hok hb hr hx et _hj h0 hz
  generalize rqT r = T at *
  go_enter Try.func27, Try.ntmps27
  go_wp2_with (first
    | (go_at_call 49; go_must (refine (HF.out _ H0.out.2).mono ?_); rintro e w1 ⟨rfl, hb1⟩; have H1 := hid (H0.out.2.trans (hb1.mono H0.out.2.size)); have HM1 : Hid (LgM w1 N g ep am cm l v ps ∧ BxAt w1 w.heap.size [.int .i64 r.c, .int .i64 r.st, .int .i64 r.k, .string r.key, .float .f64 r.b, .int .i64 r.id] 43 ∧ BxAt w1 (w.heap.size + 1) [.int .i64 x.1, .string x.2] 67) := hid ⟨HLk.out _ H1.out, (BxAt.keep H0.out.1 hb1), HX0.out.keep hb1⟩; clear hb1 q0 q1 q2 q3 q4 q5)
    | (go_at_call 51; go_must (refine (HN.out _ _ (by first | rfl | omega) H5.out.1).mono ?_); rintro e w7 ⟨rfl, hp7⟩; have H7 := hid hp7; clear hp7))
  obtain ⟨wd, ed⟩ : ∃ u, u = w1.drew := ⟨_, rfl⟩
  have HD : Hid (Below w.heap.size w wd) := hid (by rw [ed]; exact H1.out.drew)
  have HS : Hid (SlA wd g ep am cm l v ps ∧ BxAt wd w.heap.size [.int .i64 r.c, .int .i64 r.st, .int .i64 r.k, .string r.key, .float .f64 r.b, .int .i64 r.id] 43 ∧ BxAt wd (w.heap.size + 1) [.int .i64 x.1, .string x.2] 67) := hid (by rw [ed]; exact ⟨HM1.out.1.at_.keep (Below.refl _ _).drew, HM1.out.2.1, HM1.out.2.2⟩)
  refine wp_region_G (S := fun ww => SlA ww g ep am cm l v ps ∧ BxAt ww w.heap.size [.int .i64 r.c, .int .i64 r.st, .int .i64 r.k, .string r.key, .float .f64 r.b, .int .i64 r.id] 43 ∧ BxAt ww (w.heap.size + 1) [.int .i64 x.1, .string x.2] 67) (ex := []) (by kernel_rfl) ?_
  try (change wpAnyG _ _ _ _ _ _ _ _ _ (World.drew _))
  try rw [← ed]
  clear ed
  refine wpAnyG_take (i := 0) (v := ?v1) rfl (by kernel_rfl) (fun _ _ _ h => h) (Or.inl ⟨by rfl, ?hy1⟩) HS.out ?rest1
  case hy1 => (intro ww hS; have x0 := hS.2.2.cell 0 _ rfl; have x1 := hS.2.2.cell 1 _ rfl; go_simp; try with_reducible rfl)
  go_simp
  refine wpAnyG_take (i := 1) (v := ?v2) rfl (by kernel_rfl) (fun _ _ _ h => h) (Or.inl ⟨by rfl, ?hy2⟩) HS.out ?rest2
  case hy2 => (intro ww _; go_simp; try with_reducible rfl)
  go_simp
  refine wpAnyG_take (i := 2) (v := ?v3) rfl (by kernel_rfl) (fun _ _ _ h => h) (Or.inl ⟨by rfl, ?hy3⟩) HS.out ?rest3
  case hy3 => (intro ww _; go_simp; try with_reducible rfl)
  go_simp
  refine wpAnyG_take (i := 3) (v := ?v4) rfl (by kernel_rfl) (fun _ _ _ h => h) (Or.inl ⟨by rfl, ?hy4⟩) HS.out ?rest4
  case hy4 => (intro ww _; go_simp; try with_reducible rfl)
  go_simp
  refine wpAnyG_take (i := 4) (v := ?v5) rfl (by kernel_rfl) (fun _ _ _ h => h) (Or.inl ⟨by rfl, ?hy5⟩) HS.out ?rest5
  case hy5 => (intro ww hS; have q0 := hS.2.1.cell 0 _ rfl; have q1 := hS.2.1.cell 1 _ rfl; have q2 := hS.2.1.cell 2 _ rfl; have q3 := hS.2.1.cell 3 _ rfl; have q4 := hS.2.1.cell 4 _ rfl; have q5 := hS.2.1.cell 5 _ rfl; go_simp; try with_reducible rfl)
  go_simp
  refine wpAnyG_all (rs := [5]) (by kernel_rfl) (by simp) ?_
  intro i hi
  obtain rfl := List.mem_singleton.1 hi
  clear hi
  refine wpOp_s rfl (by rfl) (fun K hK => ?_)
  go_simp
  refine (HG.out _ HS.out.1).mono ?_
  rintro e w5 ⟨rfl, hb5⟩
  have H5 : Hid (LgM w5 N g ep am cm l v ps ∧ Below w.heap.size w w5) := hid ⟨HLk.out _ (HD.out.trans (hb5.mono HD.out.size)), HD.out.trans (hb5.mono HD.out.size)⟩
  have HS5 : Hid (SlA w5 g ep am cm l v ps ∧ BxAt w5 w.heap.size [.int .i64 r.c, .int .i64 r.st, .int .i64 r.k, .string r.key, .float .f64 r.b, .int .i64 r.id] 43 ∧ BxAt w5 (w.heap.size + 1) [.int .i64 x.1, .string x.2] 67) := hid ⟨HS.out.1.keep hb5, HS.out.2.1.keep hb5, HS.out.2.2.keep hb5⟩
  clear hb5
  refine hK _ _ ⟨fun _ => HS5.out, ?_⟩
  clear hK K
  go_simp
  refine wpAnyG_take (i := 6) (v := ?v6) rfl (by kernel_rfl) (fun _ _ _ h => h) (Or.inl ⟨by rfl, ?hy6⟩) HS5.out ?rest6
  case hy6 => (intro ww _; go_simp; try with_reducible rfl)
  go_simp
  refine wpAnyG_done (by kernel_rfl) ?_ _
  go_simp
  go_wp2_with (first
    | (go_at_call 51; go_must (refine (HN.out _ _ (by first | rfl | omega) H5.out.1).mono ?_); rintro e w7 ⟨rfl, hp7⟩; have H7 := hid hp7; clear hp7))
  go_ret
  exact ⟨rfl, by rw [H7.out]; exact H5.out.2⟩
set_option maxRecDepth 100000 in
set_option maxHeartbeats 3200000 in
theorem sprepare_ok (N g : Nat) (ep : Int) (am : Option Addr) (cm : Nat) (l : List Int) (v : Int) (ps : List Pl) (i : Nat) (p : Pl) (j : Nat) (_hj : j < 16) (r : Rq) (x : Int × ByteArray) (hb : r.b < 18446744073709551616) (hr : rqE r = 0) (w : World) (h : LgM w N g ep am cm l v ps) (hl : 0 < l.length) (hlm : l.length ≤ 1000) (he : 0 ≤ ep ∧ ep ≤ 60) (_hv : 0 ≤ v ∧ v ≤ 15) (hi : ps[i]? = some p) (hh : hasM l (j : Int) = true) (hx : x = ((j : Int), prT ep v (4 * ep + 1 + (i : Int)) r)) (t0 : ByteArray) (h0 : p.pre[j]? = some t0) (hz : t0.size = 0) (hsz : p.pro.size ≤ 64) :
    Calls Try.prog 27 #[.pointer (some ⟨g, 0, none⟩), .int .i64 (j : Int), .int .i64 (4 * ep + 1 + (i : Int)), .agg #[.int .i64 r.c, .int .i64 r.st, .int .i64 r.k, .string r.key, .float .f64 r.b, .int .i64 r.id], .agg #[.int .i64 x.1, .string x.2]] w fun e w' => e = .returned (.int .i64 0) ∧ SetPost w w' N g ep am cm l v ps i (setl ep l.length v (4 * ep + 1 + (i : Int)) { p.pp with pre := p.pre.set j (rqT r) }) := by
  have hi4 : i < 4 := by have := (List.getElem?_eq_some_iff.1 hi).1; rw [h.at_.four] at this; exact this
  have hok := h.at_.ok p (List.mem_of_getElem? hi)
  have H0 : Hid (RqAt ((w.alloc (.cells #[.int .i64 r.c, .int .i64 r.st, .int .i64 r.k, .string r.key, .float .f64 r.b, .int .i64 r.id] 43)).alloc (.cells #[.int .i64 x.1, .string x.2] 67)) w.heap.size r ∧ Below w.heap.size w ((w.alloc (.cells #[.int .i64 r.c, .int .i64 r.st, .int .i64 r.k, .string r.key, .float .f64 r.b, .int .i64 r.id] 43)).alloc (.cells #[.int .i64 x.1, .string x.2] 67))) := hid ⟨(Below.heap_alloc _ _ _ (by simp)).trans (heap_alloc_last w _), ((Below.refl _ _).alloc (Nat.le_refl _) _).alloc (by simp) _⟩
  have HX0 : Hid (BxAt ((w.alloc (.cells #[.int .i64 r.c, .int .i64 r.st, .int .i64 r.k, .string r.key, .float .f64 r.b, .int .i64 r.id] 43)).alloc (.cells #[.int .i64 x.1, .string x.2] 67)) (w.heap.size + 1) [.int .i64 x.1, .string x.2] 67) := hid (snd_alloc _ _ _)
  obtain ⟨⟨q0, q1⟩, q2, q3, q4, q5⟩ := H0.out.1.cells
  have HF : Hid (∀ u : World, Below w.heap.size w u → Calls Try.prog 49 #[.pointer (some ⟨g, 0, none⟩), .int .i64 (j : Int), .int .i64 (4 * ep + 1 + (i : Int)), .agg #[.int .i64 r.c, .int .i64 r.st, .int .i64 r.k, .string r.key, .float .f64 r.b, .int .i64 r.id]] u fun e w' => e = .returned (.tuple #[.pointer (some ⟨g, 3 + i * 43, none⟩), .string (rqT r), .int .i64 0]) ∧ Below u.heap.size u w') := hid (fun u hu => sfindOf_yes g ep am cm l v ps i (j : Int) r hb u (h.at_.keep hu) hl (by unfold maxLen; omega) hr he hi4 hh)
  obtain ⟨tx, et⟩ : ∃ tx, tx = prT ep v (4 * ep + 1 + (i : Int)) r := ⟨_, rfl⟩
  have HG : Hid (∀ u : World, SlA u g ep am cm l v ps → Calls Try.prog 50 #[.pointer (some ⟨g, 0, none⟩), .int .i64 (j : Int), .int .i64 (4 * ep + 1 + (i : Int)), .agg #[.int .i64 r.c, .int .i64 r.st, .int .i64 r.k, .string r.key, .float .f64 r.b, .int .i64 r.id]] u fun e w' => e = .returned (.agg #[.int .i64 (j : Int), .string tx]) ∧ Below u.heap.size u w') := hid (fun u hu => by rw [et]; exact ssign_any g ep am cm l v ps (j : Int) (4 * ep + 1 + (i : Int)) r hb ⟨by omega, by omega, by omega⟩ u hu)
  have HLk : Hid (∀ u, Below w.heap.size w u → LgM u N g ep am cm l v ps) := hid (fun u hu => h.keep hu)
  rw [← et] at hx
  have hx1 : (x.1 == (j : Int)) = true := by rw [hx]; simp
  have hx2 : (x.2.toList == tx.toList) = true := by rw [hx]; simp
  have HN : Hid (∀ (u : World) (o : Nat), o = 3 + i * 43 + (1 + j) → LgM u N g ep am cm l v ps → Calls Try.prog 51 #[.pointer (some ⟨g, 0, none⟩), .pointer (some ⟨g, o, none⟩), .string (rqT r), .int .i64 (4 * ep + 1 + (i : Int))] u fun e w' => e = .returned (.int .i64 0) ∧ SetPost u w' N g ep am cm l v ps i (setl ep l.length v (4 * ep + 1 + (i : Int)) { p.pp with pre := p.pre.set j (rqT r) })) := hid (fun u o ho hu => snote_ok N g ep am cm l v ps i p u hu hl hlm he _hv hi (1 + j) o ho (by omega) t0 (rqT r) (plC_pre j t0 h0) hz { p with pre := p.pre.set j (rqT r) } (plC_setpre p j (rqT r) (by rw [hok.pre]; exact _hj)) ⟨by rw [List.length_set]; exact hok.pre, hok.com⟩ rfl hsz)
  generalize setl ep l.length v (4 * ep + 1 + (i : Int)) { p.pp with pre := p.pre.set j (rqT r) } = res at HN ⊢
  generalize 4 * ep + 1 + (i : Int) = s at HF HG HN ⊢
  have hj0 : (0 : Int) ≤ (j : Int) := Int.natCast_nonneg _
  have hj1 : (j : Int) < 16 := by omega
  clear h hl hlm he _hv hi hh hi4 hok hb hr hx et _hj h0 hz hsz
  generalize rqT r = T at *
  go_enter Try.func27, Try.ntmps27
  go_wp2_with (first
    | (go_at_call 49; go_must (refine (HF.out _ H0.out.2).mono ?_); rintro e w1 ⟨rfl, hb1⟩; have H1 := hid (H0.out.2.trans (hb1.mono H0.out.2.size)); have HM1 : Hid (LgM w1 N g ep am cm l v ps ∧ BxAt w1 w.heap.size [.int .i64 r.c, .int .i64 r.st, .int .i64 r.k, .string r.key, .float .f64 r.b, .int .i64 r.id] 43 ∧ BxAt w1 (w.heap.size + 1) [.int .i64 x.1, .string x.2] 67) := hid ⟨HLk.out _ H1.out, (BxAt.keep H0.out.1 hb1), HX0.out.keep hb1⟩; clear hb1 q0 q1 q2 q3 q4 q5)
    | (go_at_call 51; go_must (refine (HN.out _ _ (by first | rfl | omega) H5.out.1).mono ?_); rintro e w7 ⟨rfl, hp7⟩; have H7 := hid hp7; clear hp7))
  obtain ⟨wd, ed⟩ : ∃ u, u = w1.drew := ⟨_, rfl⟩
  have HD : Hid (Below w.heap.size w wd) := hid (by rw [ed]; exact H1.out.drew)
  have HS : Hid (SlA wd g ep am cm l v ps ∧ BxAt wd w.heap.size [.int .i64 r.c, .int .i64 r.st, .int .i64 r.k, .string r.key, .float .f64 r.b, .int .i64 r.id] 43 ∧ BxAt wd (w.heap.size + 1) [.int .i64 x.1, .string x.2] 67) := hid (by rw [ed]; exact ⟨HM1.out.1.at_.keep (Below.refl _ _).drew, HM1.out.2.1, HM1.out.2.2⟩)
  refine wp_region_G (S := fun ww => SlA ww g ep am cm l v ps ∧ BxAt ww w.heap.size [.int .i64 r.c, .int .i64 r.st, .int .i64 r.k, .string r.key, .float .f64 r.b, .int .i64 r.id] 43 ∧ BxAt ww (w.heap.size + 1) [.int .i64 x.1, .string x.2] 67) (ex := []) (by kernel_rfl) ?_
  try (change wpAnyG _ _ _ _ _ _ _ _ _ (World.drew _))
  try rw [← ed]
  clear ed
  refine wpAnyG_take (i := 0) (v := ?v1) rfl (by kernel_rfl) (fun _ _ _ h => h) (Or.inl ⟨by rfl, ?hy1⟩) HS.out ?rest1
  case hy1 => (intro ww hS; have x0 := hS.2.2.cell 0 _ rfl; have x1 := hS.2.2.cell 1 _ rfl; go_simp; try with_reducible rfl)
  go_simp
  refine wpAnyG_take (i := 1) (v := ?v2) rfl (by kernel_rfl) (fun _ _ _ h => h) (Or.inl ⟨by rfl, ?hy2⟩) HS.out ?rest2
  case hy2 => (intro ww _; go_simp; try with_reducible rfl)
  go_simp
  refine wpAnyG_take (i := 2) (v := ?v3) rfl (by kernel_rfl) (fun _ _ _ h => h) (Or.inl ⟨by rfl, ?hy3⟩) HS.out ?rest3
  case hy3 => (intro ww _; go_simp; try with_reducible rfl)
  go_simp
  refine wpAnyG_take (i := 3) (v := ?v4) rfl (by kernel_rfl) (fun _ _ _ h => h) (Or.inl ⟨by rfl, ?hy4⟩) HS.out ?rest4
  case hy4 => (intro ww _; go_simp; try with_reducible rfl)
  go_simp
  refine wpAnyG_take (i := 4) (v := ?v5) rfl (by kernel_rfl) (fun _ _ _ h => h) (Or.inl ⟨by rfl, ?hy5⟩) HS.out ?rest5
  case hy5 => (intro ww hS; have q0 := hS.2.1.cell 0 _ rfl; have q1 := hS.2.1.cell 1 _ rfl; have q2 := hS.2.1.cell 2 _ rfl; have q3 := hS.2.1.cell 3 _ rfl; have q4 := hS.2.1.cell 4 _ rfl; have q5 := hS.2.1.cell 5 _ rfl; go_simp; try with_reducible rfl)
  go_simp
  refine wpAnyG_all (rs := [5]) (by kernel_rfl) (by simp) ?_
  intro i hi
  obtain rfl := List.mem_singleton.1 hi
  clear hi
  refine wpOp_s rfl (by rfl) (fun K hK => ?_)
  go_simp
  refine (HG.out _ HS.out.1).mono ?_
  rintro e w5 ⟨rfl, hb5⟩
  have H5 : Hid (LgM w5 N g ep am cm l v ps ∧ Below w.heap.size w w5) := hid ⟨HLk.out _ (HD.out.trans (hb5.mono HD.out.size)), HD.out.trans (hb5.mono HD.out.size)⟩
  have HS5 : Hid (SlA w5 g ep am cm l v ps ∧ BxAt w5 w.heap.size [.int .i64 r.c, .int .i64 r.st, .int .i64 r.k, .string r.key, .float .f64 r.b, .int .i64 r.id] 43 ∧ BxAt w5 (w.heap.size + 1) [.int .i64 x.1, .string x.2] 67) := hid ⟨HS.out.1.keep hb5, HS.out.2.1.keep hb5, HS.out.2.2.keep hb5⟩
  clear hb5
  refine hK _ _ ⟨fun _ => HS5.out, ?_⟩
  clear hK K
  go_simp
  refine wpAnyG_take (i := 6) (v := ?v6) rfl (by kernel_rfl) (fun _ _ _ h => h) (Or.inl ⟨by rfl, ?hy6⟩) HS5.out ?rest6
  case hy6 => (intro ww _; go_simp; try with_reducible rfl)
  go_simp
  refine wpAnyG_done (by kernel_rfl) ?_ _
  go_simp
  go_wp2_with (first
    | (go_at_call 51; go_must (refine (HN.out _ _ (by first | rfl | omega) H5.out.1).mono ?_); rintro e w7 ⟨rfl, hp7⟩; have H7 := hid hp7; clear hp7))
  go_ret
  obtain ⟨p2, k1, k2, k3, k4⟩ := H7.out
  exact ⟨rfl, p2, k1, k2, (But.of H5.out.2).trans k3, fun p0 h0 => (k4 p0 h0).imp id (fun hf => hf.mono H5.out.2.size)⟩
set_option maxRecDepth 100000 in
set_option maxHeartbeats 3200000 in
theorem scommit_nil (s fr : Int) (r : Rq) (hb : r.b < 18446744073709551616) (w : World) :
    Calls Try.prog 28 #[.pointer none, .int .i64 fr, .int .i64 s, .agg #[.int .i64 r.c, .int .i64 r.st, .int .i64 r.k, .string r.key, .float .f64 r.b, .int .i64 r.id]] w fun e w' => e = .returned (.int .i64 1) ∧ Below w.heap.size w w' := by
  have H0 : Hid (RqAt (w.alloc (.cells #[.int .i64 r.c, .int .i64 r.st, .int .i64 r.k, .string r.key, .float .f64 r.b, .int .i64 r.id] 43)) w.heap.size r ∧ Below w.heap.size w (w.alloc (.cells #[.int .i64 r.c, .int .i64 r.st, .int .i64 r.k, .string r.key, .float .f64 r.b, .int .i64 r.id] 43))) := hid ⟨heap_alloc_last w _, (Below.refl _ _).alloc (Nat.le_refl _) _⟩
  obtain ⟨⟨q0, q1⟩, q2, q3, q4, q5⟩ := H0.out.1.cells
  have HF : Hid (∀ u : World, Below w.heap.size w u → Calls Try.prog 49 #[.pointer none, .int .i64 fr, .int .i64 s, .agg #[.int .i64 r.c, .int .i64 r.st, .int .i64 r.k, .string r.key, .float .f64 r.b, .int .i64 r.id]] u fun e w' => e = .returned (.tuple #[.pointer none, .string ⟨#[]⟩, .int .i64 1]) ∧ Below u.heap.size u w') := hid (fun u hu => sfindOf_nil s fr r hb u)
  clear hb
  go_enter Try.func28, Try.ntmps28
  go_wp2_with (first
    | (go_at_call 49; go_must (refine (HF.out _ H0.out.2).mono ?_); rintro e w1 ⟨rfl, hb1⟩; have H1 := hid (H0.out.2.trans (hb1.mono H0.out.2.size)); skip; clear hb1 q0 q1 q2 q3 q4 q5))
  go_ret
  exact ⟨rfl, H1.out⟩
set_option maxRecDepth 100000 in
set_option maxHeartbeats 3200000 in
theorem scommit_arg (N g : Nat) (ep : Int) (am : Option Addr) (cm : Nat) (l : List Int) (v : Int) (ps : List Pl) (s fr : Int) (r : Rq) (hb : r.b < 18446744073709551616) (hr : rqE r ≠ 0) (w : World) (h : LgM w N g ep am cm l v ps) (hl : 0 < l.length) :
    Calls Try.prog 28 #[.pointer (some ⟨g, 0, none⟩), .int .i64 fr, .int .i64 s, .agg #[.int .i64 r.c, .int .i64 r.st, .int .i64 r.k, .string r.key, .float .f64 r.b, .int .i64 r.id]] w fun e w' => e = .returned (.int .i64 1) ∧ Below w.heap.size w w' := by
  have H0 : Hid (RqAt (w.alloc (.cells #[.int .i64 r.c, .int .i64 r.st, .int .i64 r.k, .string r.key, .float .f64 r.b, .int .i64 r.id] 43)) w.heap.size r ∧ Below w.heap.size w (w.alloc (.cells #[.int .i64 r.c, .int .i64 r.st, .int .i64 r.k, .string r.key, .float .f64 r.b, .int .i64 r.id] 43))) := hid ⟨heap_alloc_last w _, (Below.refl _ _).alloc (Nat.le_refl _) _⟩
  obtain ⟨⟨q0, q1⟩, q2, q3, q4, q5⟩ := H0.out.1.cells
  have HF : Hid (∀ u : World, Below w.heap.size w u → Calls Try.prog 49 #[.pointer (some ⟨g, 0, none⟩), .int .i64 fr, .int .i64 s, .agg #[.int .i64 r.c, .int .i64 r.st, .int .i64 r.k, .string r.key, .float .f64 r.b, .int .i64 r.id]] u fun e w' => e = .returned (.tuple #[.pointer none, .string ⟨#[]⟩, .int .i64 1]) ∧ Below u.heap.size u w') := hid (fun u hu => sfindOf_arg g ep am cm l v ps s fr r hb u (h.at_.keep hu) hl hr)
  clear hb hr h hl
  go_enter Try.func28, Try.ntmps28
  go_wp2_with (first
    | (go_at_call 49; go_must (refine (HF.out _ H0.out.2).mono ?_); rintro e w1 ⟨rfl, hb1⟩; have H1 := hid (H0.out.2.trans (hb1.mono H0.out.2.size)); skip; clear hb1 q0 q1 q2 q3 q4 q5))
  go_ret
  exact ⟨rfl, H1.out⟩
set_option maxRecDepth 100000 in
set_option maxHeartbeats 3200000 in
theorem scommit_slot (N g : Nat) (ep : Int) (am : Option Addr) (cm : Nat) (l : List Int) (v : Int) (ps : List Pl) (s fr : Int) (r : Rq) (hb : r.b < 18446744073709551616) (hr : rqE r = 0) (w : World) (h : LgM w N g ep am cm l v ps) (hl : 0 < l.length) (he : 0 ≤ ep ∧ ep ≤ 60) (hs : s ≤ 4 * ep ∨ 4 * ep + 4 < s) :
    Calls Try.prog 28 #[.pointer (some ⟨g, 0, none⟩), .int .i64 fr, .int .i64 s, .agg #[.int .i64 r.c, .int .i64 r.st, .int .i64 r.k, .string r.key, .float .f64 r.b, .int .i64 r.id]] w fun e w' => e = .returned (.int .i64 14) ∧ Below w.heap.size w w' := by
  have H0 : Hid (RqAt (w.alloc (.cells #[.int .i64 r.c, .int .i64 r.st, .int .i64 r.k, .string r.key, .float .f64 r.b, .int .i64 r.id] 43)) w.heap.size r ∧ Below w.heap.size w (w.alloc (.cells #[.int .i64 r.c, .int .i64 r.st, .int .i64 r.k, .string r.key, .float .f64 r.b, .int .i64 r.id] 43))) := hid ⟨heap_alloc_last w _, (Below.refl _ _).alloc (Nat.le_refl _) _⟩
  obtain ⟨⟨q0, q1⟩, q2, q3, q4, q5⟩ := H0.out.1.cells
  have HF : Hid (∀ u : World, Below w.heap.size w u → Calls Try.prog 49 #[.pointer (some ⟨g, 0, none⟩), .int .i64 fr, .int .i64 s, .agg #[.int .i64 r.c, .int .i64 r.st, .int .i64 r.k, .string r.key, .float .f64 r.b, .int .i64 r.id]] u fun e w' => e = .returned (.tuple #[.pointer none, .string ⟨#[]⟩, .int .i64 14]) ∧ Below u.heap.size u w') := hid (fun u hu => sfindOf_slot g ep am cm l v ps s fr r hb u (h.at_.keep hu) hl hr he hs)
  clear hb hr h hl he hs
  go_enter Try.func28, Try.ntmps28
  go_wp2_with (first
    | (go_at_call 49; go_must (refine (HF.out _ H0.out.2).mono ?_); rintro e w1 ⟨rfl, hb1⟩; have H1 := hid (H0.out.2.trans (hb1.mono H0.out.2.size)); skip; clear hb1 q0 q1 q2 q3 q4 q5))
  go_ret
  exact ⟨rfl, H1.out⟩
set_option maxRecDepth 100000 in
set_option maxHeartbeats 3200000 in
theorem scommit_absent (N g : Nat) (ep : Int) (am : Option Addr) (cm : Nat) (l : List Int) (v : Int) (ps : List Pl) (i : Nat) (fr : Int) (r : Rq) (hb : r.b < 18446744073709551616) (hr : rqE r = 0) (w : World) (h : LgM w N g ep am cm l v ps) (hl : 0 < l.length) (hlm : l.length ≤ 1000) (he : 0 ≤ ep ∧ ep ≤ 60) (hi : i < 4) (hh : hasM l fr = false) :
    Calls Try.prog 28 #[.pointer (some ⟨g, 0, none⟩), .int .i64 fr, .int .i64 (4 * ep + 1 + (i : Int)), .agg #[.int .i64 r.c, .int .i64 r.st, .int .i64 r.k, .string r.key, .float .f64 r.b, .int .i64 r.id]] w fun e w' => e = .returned (.int .i64 8) ∧ Below w.heap.size w w' := by
  have H0 : Hid (RqAt (w.alloc (.cells #[.int .i64 r.c, .int .i64 r.st, .int .i64 r.k, .string r.key, .float .f64 r.b, .int .i64 r.id] 43)) w.heap.size r ∧ Below w.heap.size w (w.alloc (.cells #[.int .i64 r.c, .int .i64 r.st, .int .i64 r.k, .string r.key, .float .f64 r.b, .int .i64 r.id] 43))) := hid ⟨heap_alloc_last w _, (Below.refl _ _).alloc (Nat.le_refl _) _⟩
  obtain ⟨⟨q0, q1⟩, q2, q3, q4, q5⟩ := H0.out.1.cells
  have HF : Hid (∀ u : World, Below w.heap.size w u → Calls Try.prog 49 #[.pointer (some ⟨g, 0, none⟩), .int .i64 fr, .int .i64 (4 * ep + 1 + (i : Int)), .agg #[.int .i64 r.c, .int .i64 r.st, .int .i64 r.k, .string r.key, .float .f64 r.b, .int .i64 r.id]] u fun e w' => e = .returned (.tuple #[.pointer none, .string ⟨#[]⟩, .int .i64 8]) ∧ Below u.heap.size u w') := hid (fun u hu => sfindOf_absent g ep am cm l v ps i fr r hb u (h.at_.keep hu) hl (by unfold maxLen; omega) hr he hi hh)
  clear hb hr h hl he hi hh
  generalize 4 * ep + 1 + (i : Int) = s at HF ⊢
  go_enter Try.func28, Try.ntmps28
  go_wp2_with (first
    | (go_at_call 49; go_must (refine (HF.out _ H0.out.2).mono ?_); rintro e w1 ⟨rfl, hb1⟩; have H1 := hid (H0.out.2.trans (hb1.mono H0.out.2.size)); skip; clear hb1 q0 q1 q2 q3 q4 q5))
  go_ret
  exact ⟨rfl, H1.out⟩
set_option maxRecDepth 100000 in
set_option maxHeartbeats 3200000 in
theorem scommit_same (N g : Nat) (ep : Int) (am : Option Addr) (cm : Nat) (l : List Int) (v : Int) (ps : List Pl) (i : Nat) (p : Pl) (j : Nat) (_hj : j < 16) (r : Rq) (hb : r.b < 18446744073709551616) (hr : rqE r = 0) (w : World) (h : LgM w N g ep am cm l v ps) (hl : 0 < l.length) (hlm : l.length ≤ 1000) (he : 0 ≤ ep ∧ ep ≤ 60) (_hv : 0 ≤ v ∧ v ≤ 15) (hi : ps[i]? = some p) (hh : hasM l (j : Int) = true) (t0 : ByteArray) (h0 : p.com[j]? = some t0) (hz : t0.size ≠ 0) :
    Calls Try.prog 28 #[.pointer (some ⟨g, 0, none⟩), .int .i64 (j : Int), .int .i64 (4 * ep + 1 + (i : Int)), .agg #[.int .i64 r.c, .int .i64 r.st, .int .i64 r.k, .string r.key, .float .f64 r.b, .int .i64 r.id]] w fun e w' => e = .returned (.int .i64 7) ∧ Below w.heap.size w w' := by
  have hi4 : i < 4 := by have := (List.getElem?_eq_some_iff.1 hi).1; rw [h.at_.four] at this; exact this
  have hok := h.at_.ok p (List.mem_of_getElem? hi)
  have H0 : Hid (RqAt (w.alloc (.cells #[.int .i64 r.c, .int .i64 r.st, .int .i64 r.k, .string r.key, .float .f64 r.b, .int .i64 r.id] 43)) w.heap.size r ∧ Below w.heap.size w (w.alloc (.cells #[.int .i64 r.c, .int .i64 r.st, .int .i64 r.k, .string r.key, .float .f64 r.b, .int .i64 r.id] 43))) := hid ⟨heap_alloc_last w _, (Below.refl _ _).alloc (Nat.le_refl _) _⟩
  obtain ⟨⟨q0, q1⟩, q2, q3, q4, q5⟩ := H0.out.1.cells
  have HF : Hid (∀ u : World, Below w.heap.size w u → Calls Try.prog 49 #[.pointer (some ⟨g, 0, none⟩), .int .i64 (j : Int), .int .i64 (4 * ep + 1 + (i : Int)), .agg #[.int .i64 r.c, .int .i64 r.st, .int .i64 r.k, .string r.key, .float .f64 r.b, .int .i64 r.id]] u fun e w' => e = .returned (.tuple #[.pointer (some ⟨g, 3 + i * 43, none⟩), .string (rqT r), .int .i64 0]) ∧ Below u.heap.size u w') := hid (fun u hu => sfindOf_yes g ep am cm l v ps i (j : Int) r hb u (h.at_.keep hu) hl (by unfold maxLen; omega) hr he hi4 hh)
  have HLk : Hid (∀ u, Below w.heap.size w u → LgM u N g ep am cm l v ps) := hid (fun u hu => h.keep hu)
  have HN : Hid (∀ (u : World) (o : Nat), o = 3 + i * 43 + (17 + j) → LgM u N g ep am cm l v ps → Calls Try.prog 51 #[.pointer (some ⟨g, 0, none⟩), .pointer (some ⟨g, o, none⟩), .string (rqT r), .int .i64 (4 * ep + 1 + (i : Int))] u fun e w' => e = .returned (.int .i64 7) ∧ w' = u) := hid (fun u o ho hu => snote_same N g ep am cm l v ps i p u hu hi (17 + j) o ho (by omega) t0 (rqT r) (plC_com hok j t0 h0) hz _)
  generalize 4 * ep + 1 + (i : Int) = s at HF HN ⊢
  have hj0 : (0 : Int) ≤ (j : Int) := Int.natCast_nonneg _
  have hj1 : (j : Int) < 16 := by omega
  clear h hl hlm he _hv hi hh hi4 hok hb hr _hj h0 hz
  generalize rqT r = T at *
  go_enter Try.func28, Try.ntmps28
  go_wp2_with (first
    | (go_at_call 49; go_must (refine (HF.out _ H0.out.2).mono ?_); rintro e w1 ⟨rfl, hb1⟩; have H1 := hid (H0.out.2.trans (hb1.mono H0.out.2.size)); have HM1 := hid (HLk.out _ H1.out); clear hb1 q0 q1 q2 q3 q4 q5)
    | (go_at_call 51; go_must (refine (HN.out _ _ (by first | rfl | omega) HM1.out).mono ?_); rintro e w7 ⟨rfl, hp7⟩; have H7 := hid hp7; clear hp7))
  go_ret
  exact ⟨rfl, by rw [H7.out]; exact H1.out⟩
set_option maxRecDepth 100000 in
set_option maxHeartbeats 3200000 in
theorem scommit_ok (N g : Nat) (ep : Int) (am : Option Addr) (cm : Nat) (l : List Int) (v : Int) (ps : List Pl) (i : Nat) (p : Pl) (j : Nat) (_hj : j < 16) (r : Rq) (hb : r.b < 18446744073709551616) (hr : rqE r = 0) (w : World) (h : LgM w N g ep am cm l v ps) (hl : 0 < l.length) (hlm : l.length ≤ 1000) (he : 0 ≤ ep ∧ ep ≤ 60) (_hv : 0 ≤ v ∧ v ≤ 15) (hi : ps[i]? = some p) (hh : hasM l (j : Int) = true) (t0 : ByteArray) (h0 : p.com[j]? = some t0) (hz : t0.size = 0) (hsz : p.pro.size ≤ 64) :
    Calls Try.prog 28 #[.pointer (some ⟨g, 0, none⟩), .int .i64 (j : Int), .int .i64 (4 * ep + 1 + (i : Int)), .agg #[.int .i64 r.c, .int .i64 r.st, .int .i64 r.k, .string r.key, .float .f64 r.b, .int .i64 r.id]] w fun e w' => e = .returned (.int .i64 0) ∧ SetPost w w' N g ep am cm l v ps i (setl ep l.length v (4 * ep + 1 + (i : Int)) { p.pp with com := p.com.set j (rqT r) }) := by
  have hi4 : i < 4 := by have := (List.getElem?_eq_some_iff.1 hi).1; rw [h.at_.four] at this; exact this
  have hok := h.at_.ok p (List.mem_of_getElem? hi)
  have H0 : Hid (RqAt (w.alloc (.cells #[.int .i64 r.c, .int .i64 r.st, .int .i64 r.k, .string r.key, .float .f64 r.b, .int .i64 r.id] 43)) w.heap.size r ∧ Below w.heap.size w (w.alloc (.cells #[.int .i64 r.c, .int .i64 r.st, .int .i64 r.k, .string r.key, .float .f64 r.b, .int .i64 r.id] 43))) := hid ⟨heap_alloc_last w _, (Below.refl _ _).alloc (Nat.le_refl _) _⟩
  obtain ⟨⟨q0, q1⟩, q2, q3, q4, q5⟩ := H0.out.1.cells
  have HF : Hid (∀ u : World, Below w.heap.size w u → Calls Try.prog 49 #[.pointer (some ⟨g, 0, none⟩), .int .i64 (j : Int), .int .i64 (4 * ep + 1 + (i : Int)), .agg #[.int .i64 r.c, .int .i64 r.st, .int .i64 r.k, .string r.key, .float .f64 r.b, .int .i64 r.id]] u fun e w' => e = .returned (.tuple #[.pointer (some ⟨g, 3 + i * 43, none⟩), .string (rqT r), .int .i64 0]) ∧ Below u.heap.size u w') := hid (fun u hu => sfindOf_yes g ep am cm l v ps i (j : Int) r hb u (h.at_.keep hu) hl (by unfold maxLen; omega) hr he hi4 hh)
  have HLk : Hid (∀ u, Below w.heap.size w u → LgM u N g ep am cm l v ps) := hid (fun u hu => h.keep hu)
  have HN : Hid (∀ (u : World) (o : Nat), o = 3 + i * 43 + (17 + j) → LgM u N g ep am cm l v ps → Calls Try.prog 51 #[.pointer (some ⟨g, 0, none⟩), .pointer (some ⟨g, o, none⟩), .string (rqT r), .int .i64 (4 * ep + 1 + (i : Int))] u fun e w' => e = .returned (.int .i64 0) ∧ SetPost u w' N g ep am cm l v ps i (setl ep l.length v (4 * ep + 1 + (i : Int)) { p.pp with com := p.com.set j (rqT r) })) := hid (fun u o ho hu => snote_ok N g ep am cm l v ps i p u hu hl hlm he _hv hi (17 + j) o ho (by omega) t0 (rqT r) (plC_com hok j t0 h0) hz { p with com := p.com.set j (rqT r) } (plC_setcom hok j (rqT r) (by rw [hok.com]; exact _hj)) ⟨hok.pre, by rw [List.length_set]; exact hok.com⟩ rfl hsz)
  generalize setl ep l.length v (4 * ep + 1 + (i : Int)) { p.pp with com := p.com.set j (rqT r) } = res at HN ⊢
  generalize 4 * ep + 1 + (i : Int) = s at HF HN ⊢
  have hj0 : (0 : Int) ≤ (j : Int) := Int.natCast_nonneg _
  have hj1 : (j : Int) < 16 := by omega
  clear h hl hlm he _hv hi hh hi4 hok hb hr _hj h0 hz hsz
  generalize rqT r = T at *
  go_enter Try.func28, Try.ntmps28
  go_wp2_with (first
    | (go_at_call 49; go_must (refine (HF.out _ H0.out.2).mono ?_); rintro e w1 ⟨rfl, hb1⟩; have H1 := hid (H0.out.2.trans (hb1.mono H0.out.2.size)); have HM1 := hid (HLk.out _ H1.out); clear hb1 q0 q1 q2 q3 q4 q5)
    | (go_at_call 51; go_must (refine (HN.out _ _ (by first | rfl | omega) HM1.out).mono ?_); rintro e w7 ⟨rfl, hp7⟩; have H7 := hid hp7; clear hp7))
  go_ret
  obtain ⟨p2, k1, k2, k3, k4⟩ := H7.out
  exact ⟨rfl, p2, k1, k2, (But.of H1.out).trans k3, fun p0 h0 => (k4 p0 h0).imp id (fun hf => hf.mono H1.out.size)⟩
end Go.Proofs.Ytohhlolmojeomaa

/- View, Proposed, Committed, Size. -/
namespace Go.Proofs.Ytohhlolmojeomaa
open Go.RowKit

set_option maxRecDepth 100000 in
set_option maxHeartbeats 3200000 in
theorem sview_nil (w : World) : Calls Try.prog 12 #[.pointer none] w fun e w' => e = .returned (.int .i64 0) ∧ w' = w := by
  go_enter Try.func12, Try.ntmps12
  go_wp2_with (go_at_call 33; go_must (refine (snone_nil _).mono ?_); rintro e w1 ⟨rfl, hw1⟩; replace hw1 := hw1.symm; subst hw1)
  go_ret
  exact ⟨rfl, rfl⟩
set_option maxRecDepth 100000 in
set_option maxHeartbeats 3200000 in
theorem sview_any (g : Nat) (ep : Int) (am : Option Addr) (cm : Nat) (l : List Int) (v : Int) (ps : List Pl) (w : World) (h : SlA w g ep am cm l v ps) (hl : 0 < l.length) : Calls Try.prog 12 #[.pointer (some ⟨g, 0, none⟩)] w fun e w' => e = .returned (.int .i64 v) ∧ w' = w := by
  have HN := hid (snone_any g ep am cm l v ps w h hl)
  have c2 := h.c2
  clear h hl
  go_enter Try.func12, Try.ntmps12
  go_wp2_with (go_at_call 33; go_must (refine HN.out.mono ?_); rintro e w1 ⟨rfl, hw1⟩; replace hw1 := hw1.symm; subst hw1)
  go_ret
  exact ⟨rfl, rfl⟩
set_option maxRecDepth 100000 in
set_option maxHeartbeats 3200000 in
theorem sproposed_nil (s : Int) (w : World) : Calls Try.prog 23 #[.pointer none, .int .i64 s] w fun e w' => e = .returned (.tuple #[.agg #[.int .i64 0, .int .i64 0, .int .i64 0, .string ⟨#[]⟩, .float .f64 0, .int .i64 0], .bool false]) ∧ Below w.heap.size w w' := by
  have H0 : Hid (BxAt (w.alloc (.cells #[.int .i64 0, .int .i64 0, .int .i64 0, .string ⟨#[]⟩, .float .f64 0, .int .i64 0] 43)) w.heap.size [.int .i64 0, .int .i64 0, .int .i64 0, .string ⟨#[]⟩, .float .f64 0, .int .i64 0] 43 ∧ Below w.heap.size w (w.alloc (.cells #[.int .i64 0, .int .i64 0, .int .i64 0, .string ⟨#[]⟩, .float .f64 0, .int .i64 0] 43))) := hid ⟨heap_alloc_last w _, (Below.refl _ _).alloc (Nat.le_refl _) _⟩
  have HA : Hid (∀ u : World, Below w.heap.size w u → Calls Try.prog 42 #[.pointer none, .int .i64 s] u fun e w' => e = .returned (.pointer none) ∧ w' = u) := hid (fun u _ => sat_nil s u)
  go_enter Try.func23, Try.ntmps23
  go_wp2_with (first
    | (go_at_call 42; go_must (refine (HA.out _ H0.out.2).mono ?_); rintro e w1 ⟨rfl, hw1⟩; replace hw1 := hw1.symm; subst hw1)
    | (refine wl_store_blk rfl 43 _ _ rfl w.heap.size 0 rfl #[.int .i64 0, .int .i64 0, .int .i64 0, .string ⟨#[]⟩, .float .f64 0, .int .i64 0] rfl [.int .i64 0, .int .i64 0, .int .i64 0, .string ⟨#[]⟩, .float .f64 0, .int .i64 0] 43 H0.out.1 (by simp) (by kernel_rfl) (by simp [Value.oneCell']) ?_; intro w3 Hz; go_must (have H3 : Hid (BxAt w3 w.heap.size [.int .i64 0, .int .i64 0, .int .i64 0, .string ⟨#[]⟩, .float .f64 0, .int .i64 0] 43 ∧ Below w.heap.size w w3) := hid ⟨Hz.out.1, Hz.out.2.below H0.out.2 (Nat.le_refl _)⟩); clear Hz))
  refine ret_pair (s := 4) (s2 := 5) (ad := ⟨w.heap.size, 0, none⟩) rfl rfl (load_rqS _ _ _ _ _ _ _ _ H3.out.1) rfl rfl ?_
  exact ⟨rfl, H3.out.2⟩
set_option maxRecDepth 100000 in
set_option maxHeartbeats 3200000 in
theorem sproposed_no (g : Nat) (ep : Int) (am : Option Addr) (cm : Nat) (l : List Int) (v : Int) (ps : List Pl) (s : Int) (w : World) (h : SlA w g ep am cm l v ps) (hl : 0 < l.length) (he : 0 ≤ ep ∧ ep ≤ 60) (hs : s ≤ 4 * ep ∨ 4 * ep + 4 < s) : Calls Try.prog 23 #[.pointer (some ⟨g, 0, none⟩), .int .i64 s] w fun e w' => e = .returned (.tuple #[.agg #[.int .i64 0, .int .i64 0, .int .i64 0, .string ⟨#[]⟩, .float .f64 0, .int .i64 0], .bool false]) ∧ Below w.heap.size w w' := by
  have H0 : Hid (BxAt (w.alloc (.cells #[.int .i64 0, .int .i64 0, .int .i64 0, .string ⟨#[]⟩, .float .f64 0, .int .i64 0] 43)) w.heap.size [.int .i64 0, .int .i64 0, .int .i64 0, .string ⟨#[]⟩, .float .f64 0, .int .i64 0] 43 ∧ Below w.heap.size w (w.alloc (.cells #[.int .i64 0, .int .i64 0, .int .i64 0, .string ⟨#[]⟩, .float .f64 0, .int .i64 0] 43))) := hid ⟨heap_alloc_last w _, (Below.refl _ _).alloc (Nat.le_refl _) _⟩
  have HA : Hid (∀ u : World, Below w.heap.size w u → Calls Try.prog 42 #[.pointer (some ⟨g, 0, none⟩), .int .i64 s] u fun e w' => e = .returned (.pointer none) ∧ w' = u) := hid (fun u hu => sat_no g ep am cm l v ps s u (h.keep hu) hl he hs)
  clear h hl he hs
  go_enter Try.func23, Try.ntmps23
  go_wp2_with (first
    | (go_at_call 42; go_must (refine (HA.out _ H0.out.2).mono ?_); rintro e w1 ⟨rfl, hw1⟩; replace hw1 := hw1.symm; subst hw1)
    | (refine wl_store_blk rfl 43 _ _ rfl w.heap.size 0 rfl #[.int .i64 0, .int .i64 0, .int .i64 0, .string ⟨#[]⟩, .float .f64 0, .int .i64 0] rfl [.int .i64 0, .int .i64 0, .int .i64 0, .string ⟨#[]⟩, .float .f64 0, .int .i64 0] 43 H0.out.1 (by simp) (by kernel_rfl) (by simp [Value.oneCell']) ?_; intro w3 Hz; go_must (have H3 : Hid (BxAt w3 w.heap.size [.int .i64 0, .int .i64 0, .int .i64 0, .string ⟨#[]⟩, .float .f64 0, .int .i64 0] 43 ∧ Below w.heap.size w w3) := hid ⟨Hz.out.1, Hz.out.2.below H0.out.2 (Nat.le_refl _)⟩); clear Hz))
  refine ret_pair (s := 4) (s2 := 5) (ad := ⟨w.heap.size, 0, none⟩) rfl rfl (load_rqS _ _ _ _ _ _ _ _ H3.out.1) rfl rfl ?_
  exact ⟨rfl, H3.out.2⟩
set_option maxRecDepth 100000 in
set_option maxHeartbeats 3200000 in
theorem sproposed_yes (g : Nat) (ep : Int) (am : Option Addr) (cm : Nat) (l : List Int) (v : Int) (ps : List Pl) (i : Nat) (p : Pl) (w : World) (h : SlA w g ep am cm l v ps) (hl : 0 < l.length) (he : 0 ≤ ep ∧ ep ≤ 60) (hi : ps[i]? = some p) (hsz : p.pro.size ≤ 64) : Calls Try.prog 23 #[.pointer (some ⟨g, 0, none⟩), .int .i64 (4 * ep + 1 + (i : Int))] w fun e w' => e = .returned (.tuple #[.agg #[.int .i64 (rdR p.pro).c, .int .i64 (rdR p.pro).st, .int .i64 (rdR p.pro).k, .string (rdR p.pro).key, .float .f64 (rdR p.pro).b, .int .i64 (rdR p.pro).id], .bool (rdE p.pro == 0)]) ∧ Below w.heap.size w w' := by
  have hi4 : i < 4 := by have := (List.getElem?_eq_some_iff.1 hi).1; rw [h.four] at this; exact this
  have H0 : Hid (BxAt (w.alloc (.cells #[.int .i64 0, .int .i64 0, .int .i64 0, .string ⟨#[]⟩, .float .f64 0, .int .i64 0] 43)) w.heap.size [.int .i64 0, .int .i64 0, .int .i64 0, .string ⟨#[]⟩, .float .f64 0, .int .i64 0] 43 ∧ Below w.heap.size w (w.alloc (.cells #[.int .i64 0, .int .i64 0, .int .i64 0, .string ⟨#[]⟩, .float .f64 0, .int .i64 0] 43))) := hid ⟨heap_alloc_last w _, (Below.refl _ _).alloc (Nat.le_refl _) _⟩
  have HA : Hid (∀ u : World, Below w.heap.size w u → Calls Try.prog 42 #[.pointer (some ⟨g, 0, none⟩), .int .i64 (4 * ep + 1 + (i : Int))] u fun e w' => e = .returned (.pointer (some ⟨g, 3 + i * 43, none⟩)) ∧ w' = u) := hid (fun u hu => sat_yes g ep am cm l v ps i u (h.keep hu) hl he hi4)
  have HR : Hid (∀ u : World, Calls Try.prog 43 #[.string p.pro] u fun e w' => e = .returned (.tuple #[.agg #[.int .i64 (rdR p.pro).c, .int .i64 (rdR p.pro).st, .int .i64 (rdR p.pro).k, .string (rdR p.pro).key, .float .f64 (rdR p.pro).b, .int .i64 (rdR p.pro).id], .bool (rdE p.pro == 0)]) ∧ Below u.heap.size u w') := hid (fun u => sread_any p.pro (by omega) u)
  have y0 : (w.alloc (.cells #[.int .i64 0, .int .i64 0, .int .i64 0, .string ⟨#[]⟩, .float .f64 0, .int .i64 0] 43)).cell? ⟨g, 3 + i * 43, none⟩ = some (.string p.pro) := pro_of (h.keep ((Below.refl _ _).alloc (Nat.le_refl _) _)) hi
  obtain ⟨r, er⟩ : ∃ r, r = rdR p.pro := ⟨_, rfl⟩
  rw [← er] at HR ⊢
  generalize (rdE p.pro == 0) = OKB at HR ⊢
  generalize 4 * ep + 1 + (i : Int) = s at HA ⊢
  clear h hl he hi hi4 hsz er
  go_enter Try.func23, Try.ntmps23
  go_wp2_with (first
    | (go_at_call 42; go_must (refine (HA.out _ H0.out.2).mono ?_); rintro e w1 ⟨rfl, hw1⟩; replace hw1 := hw1.symm; subst hw1)
    | (go_at_call 43; go_must (refine (HR.out _).mono ?_); rintro e w2 ⟨rfl, hb2⟩; have H2 : Hid (BxAt w2 w.heap.size [.int .i64 0, .int .i64 0, .int .i64 0, .string ⟨#[]⟩, .float .f64 0, .int .i64 0] 43 ∧ Below w.heap.size w w2) := hid ⟨H0.out.1.keep hb2, H0.out.2.trans (hb2.mono H0.out.2.size)⟩; clear hb2 y0)
    | (refine wl_store_blk rfl 43 _ _ rfl w.heap.size 0 rfl #[.int .i64 r.c, .int .i64 r.st, .int .i64 r.k, .string r.key, .float .f64 r.b, .int .i64 r.id] rfl [.int .i64 0, .int .i64 0, .int .i64 0, .string ⟨#[]⟩, .float .f64 0, .int .i64 0] 43 H2.out.1 (by simp) (by kernel_rfl) (by simp [Value.oneCell']) ?_; intro w3 Hz; go_must (have H3 : Hid (BxAt w3 w.heap.size [.int .i64 r.c, .int .i64 r.st, .int .i64 r.k, .string r.key, .float .f64 r.b, .int .i64 r.id] 43 ∧ Below w.heap.size w w3) := hid ⟨Hz.out.1, Hz.out.2.below H2.out.2 (Nat.le_refl _)⟩); clear Hz))
  refine ret_pair (s := 4) (s2 := 5) (ad := ⟨w.heap.size, 0, none⟩) rfl rfl (load_rqS _ _ _ _ _ _ _ _ H3.out.1) rfl rfl ?_
  exact ⟨rfl, H3.out.2⟩
set_option maxRecDepth 100000 in
set_option maxHeartbeats 3200000 in
theorem scommitted_nil (s : Int) (w : World) : Calls Try.prog 20 #[.pointer none, .int .i64 s] w fun e w' => e = .returned (.tuple #[.agg #[.int .i64 0, .int .i64 0, .int .i64 0, .string ⟨#[]⟩, .float .f64 0, .int .i64 0], .bool false]) ∧ Below w.heap.size w w' := by
  have H0 : Hid (BxAt (w.alloc (.cells #[.int .i64 0, .int .i64 0, .int .i64 0, .string ⟨#[]⟩, .float .f64 0, .int .i64 0] 43)) w.heap.size [.int .i64 0, .int .i64 0, .int .i64 0, .string ⟨#[]⟩, .float .f64 0, .int .i64 0] 43 ∧ Below w.heap.size w (w.alloc (.cells #[.int .i64 0, .int .i64 0, .int .i64 0, .string ⟨#[]⟩, .float .f64 0, .int .i64 0] 43))) := hid ⟨heap_alloc_last w _, (Below.refl _ _).alloc (Nat.le_refl _) _⟩
  have HA : Hid (∀ u : World, Below w.heap.size w u → Calls Try.prog 42 #[.pointer none, .int .i64 s] u fun e w' => e = .returned (.pointer none) ∧ w' = u) := hid (fun u _ => sat_nil s u)
  go_enter Try.func20, Try.ntmps20
  go_wp2_with (first
    | (go_at_call 42; go_must (refine (HA.out _ H0.out.2).mono ?_); rintro e w1 ⟨rfl, hw1⟩; replace hw1 := hw1.symm; subst hw1)
    | (refine wl_store_blk rfl 43 _ _ rfl w.heap.size 0 rfl #[.int .i64 0, .int .i64 0, .int .i64 0, .string ⟨#[]⟩, .float .f64 0, .int .i64 0] rfl [.int .i64 0, .int .i64 0, .int .i64 0, .string ⟨#[]⟩, .float .f64 0, .int .i64 0] 43 H0.out.1 (by simp) (by kernel_rfl) (by simp [Value.oneCell']) ?_; intro w3 Hz; go_must (have H3 : Hid (BxAt w3 w.heap.size [.int .i64 0, .int .i64 0, .int .i64 0, .string ⟨#[]⟩, .float .f64 0, .int .i64 0] 43 ∧ Below w.heap.size w w3) := hid ⟨Hz.out.1, Hz.out.2.below H0.out.2 (Nat.le_refl _)⟩); clear Hz))
  refine ret_pair (s := 4) (s2 := 5) (ad := ⟨w.heap.size, 0, none⟩) rfl rfl (load_rqS _ _ _ _ _ _ _ _ H3.out.1) rfl rfl ?_
  exact ⟨rfl, H3.out.2⟩
set_option maxRecDepth 100000 in
set_option maxHeartbeats 3200000 in
theorem scommitted_no (g : Nat) (ep : Int) (am : Option Addr) (cm : Nat) (l : List Int) (v : Int) (ps : List Pl) (s : Int) (w : World) (h : SlA w g ep am cm l v ps) (hl : 0 < l.length) (he : 0 ≤ ep ∧ ep ≤ 60) (hs : s ≤ 4 * ep ∨ 4 * ep + 4 < s) : Calls Try.prog 20 #[.pointer (some ⟨g, 0, none⟩), .int .i64 s] w fun e w' => e = .returned (.tuple #[.agg #[.int .i64 0, .int .i64 0, .int .i64 0, .string ⟨#[]⟩, .float .f64 0, .int .i64 0], .bool false]) ∧ Below w.heap.size w w' := by
  have H0 : Hid (BxAt (w.alloc (.cells #[.int .i64 0, .int .i64 0, .int .i64 0, .string ⟨#[]⟩, .float .f64 0, .int .i64 0] 43)) w.heap.size [.int .i64 0, .int .i64 0, .int .i64 0, .string ⟨#[]⟩, .float .f64 0, .int .i64 0] 43 ∧ Below w.heap.size w (w.alloc (.cells #[.int .i64 0, .int .i64 0, .int .i64 0, .string ⟨#[]⟩, .float .f64 0, .int .i64 0] 43))) := hid ⟨heap_alloc_last w _, (Below.refl _ _).alloc (Nat.le_refl _) _⟩
  have HA : Hid (∀ u : World, Below w.heap.size w u → Calls Try.prog 42 #[.pointer (some ⟨g, 0, none⟩), .int .i64 s] u fun e w' => e = .returned (.pointer none) ∧ w' = u) := hid (fun u hu => sat_no g ep am cm l v ps s u (h.keep hu) hl he hs)
  clear h hl he hs
  go_enter Try.func20, Try.ntmps20
  go_wp2_with (first
    | (go_at_call 42; go_must (refine (HA.out _ H0.out.2).mono ?_); rintro e w1 ⟨rfl, hw1⟩; replace hw1 := hw1.symm; subst hw1)
    | (refine wl_store_blk rfl 43 _ _ rfl w.heap.size 0 rfl #[.int .i64 0, .int .i64 0, .int .i64 0, .string ⟨#[]⟩, .float .f64 0, .int .i64 0] rfl [.int .i64 0, .int .i64 0, .int .i64 0, .string ⟨#[]⟩, .float .f64 0, .int .i64 0] 43 H0.out.1 (by simp) (by kernel_rfl) (by simp [Value.oneCell']) ?_; intro w3 Hz; go_must (have H3 : Hid (BxAt w3 w.heap.size [.int .i64 0, .int .i64 0, .int .i64 0, .string ⟨#[]⟩, .float .f64 0, .int .i64 0] 43 ∧ Below w.heap.size w w3) := hid ⟨Hz.out.1, Hz.out.2.below H0.out.2 (Nat.le_refl _)⟩); clear Hz))
  refine ret_pair (s := 4) (s2 := 5) (ad := ⟨w.heap.size, 0, none⟩) rfl rfl (load_rqS _ _ _ _ _ _ _ _ H3.out.1) rfl rfl ?_
  exact ⟨rfl, H3.out.2⟩
set_option maxRecDepth 100000 in
set_option maxHeartbeats 3200000 in
theorem scommitted_yes (g : Nat) (ep : Int) (am : Option Addr) (cm : Nat) (l : List Int) (v : Int) (ps : List Pl) (i : Nat) (p : Pl) (w : World) (h : SlA w g ep am cm l v ps) (hl : 0 < l.length) (he : 0 ≤ ep ∧ ep ≤ 60) (hi : ps[i]? = some p) (hsz : p.don.size ≤ 64) : Calls Try.prog 20 #[.pointer (some ⟨g, 0, none⟩), .int .i64 (4 * ep + 1 + (i : Int))] w fun e w' => e = .returned (.tuple #[.agg #[.int .i64 (rdR p.don).c, .int .i64 (rdR p.don).st, .int .i64 (rdR p.don).k, .string (rdR p.don).key, .float .f64 (rdR p.don).b, .int .i64 (rdR p.don).id], .bool (rdE p.don == 0)]) ∧ Below w.heap.size w w' := by
  have hi4 : i < 4 := by have := (List.getElem?_eq_some_iff.1 hi).1; rw [h.four] at this; exact this
  have H0 : Hid (BxAt (w.alloc (.cells #[.int .i64 0, .int .i64 0, .int .i64 0, .string ⟨#[]⟩, .float .f64 0, .int .i64 0] 43)) w.heap.size [.int .i64 0, .int .i64 0, .int .i64 0, .string ⟨#[]⟩, .float .f64 0, .int .i64 0] 43 ∧ Below w.heap.size w (w.alloc (.cells #[.int .i64 0, .int .i64 0, .int .i64 0, .string ⟨#[]⟩, .float .f64 0, .int .i64 0] 43))) := hid ⟨heap_alloc_last w _, (Below.refl _ _).alloc (Nat.le_refl _) _⟩
  have HA : Hid (∀ u : World, Below w.heap.size w u → Calls Try.prog 42 #[.pointer (some ⟨g, 0, none⟩), .int .i64 (4 * ep + 1 + (i : Int))] u fun e w' => e = .returned (.pointer (some ⟨g, 3 + i * 43, none⟩)) ∧ w' = u) := hid (fun u hu => sat_yes g ep am cm l v ps i u (h.keep hu) hl he hi4)
  have HR : Hid (∀ u : World, Calls Try.prog 43 #[.string p.don] u fun e w' => e = .returned (.tuple #[.agg #[.int .i64 (rdR p.don).c, .int .i64 (rdR p.don).st, .int .i64 (rdR p.don).k, .string (rdR p.don).key, .float .f64 (rdR p.don).b, .int .i64 (rdR p.don).id], .bool (rdE p.don == 0)]) ∧ Below u.heap.size u w') := hid (fun u => sread_any p.don (by omega) u)
  have y0 : (w.alloc (.cells #[.int .i64 0, .int .i64 0, .int .i64 0, .string ⟨#[]⟩, .float .f64 0, .int .i64 0] 43)).cell? ⟨g, 3 + i * 43 + 42, none⟩ = some (.string p.don) := don_of (h.keep ((Below.refl _ _).alloc (Nat.le_refl _) _)) hi
  obtain ⟨r, er⟩ : ∃ r, r = rdR p.don := ⟨_, rfl⟩
  rw [← er] at HR ⊢
  generalize (rdE p.don == 0) = OKB at HR ⊢
  generalize 4 * ep + 1 + (i : Int) = s at HA ⊢
  clear h hl he hi hi4 hsz er
  go_enter Try.func20, Try.ntmps20
  go_wp2_with (first
    | (go_at_call 42; go_must (refine (HA.out _ H0.out.2).mono ?_); rintro e w1 ⟨rfl, hw1⟩; replace hw1 := hw1.symm; subst hw1)
    | (go_at_call 43; go_must (refine (HR.out _).mono ?_); rintro e w2 ⟨rfl, hb2⟩; have H2 : Hid (BxAt w2 w.heap.size [.int .i64 0, .int .i64 0, .int .i64 0, .string ⟨#[]⟩, .float .f64 0, .int .i64 0] 43 ∧ Below w.heap.size w w2) := hid ⟨H0.out.1.keep hb2, H0.out.2.trans (hb2.mono H0.out.2.size)⟩; clear hb2 y0)
    | (refine wl_store_blk rfl 43 _ _ rfl w.heap.size 0 rfl #[.int .i64 r.c, .int .i64 r.st, .int .i64 r.k, .string r.key, .float .f64 r.b, .int .i64 r.id] rfl [.int .i64 0, .int .i64 0, .int .i64 0, .string ⟨#[]⟩, .float .f64 0, .int .i64 0] 43 H2.out.1 (by simp) (by kernel_rfl) (by simp [Value.oneCell']) ?_; intro w3 Hz; go_must (have H3 : Hid (BxAt w3 w.heap.size [.int .i64 r.c, .int .i64 r.st, .int .i64 r.k, .string r.key, .float .f64 r.b, .int .i64 r.id] 43 ∧ Below w.heap.size w w3) := hid ⟨Hz.out.1, Hz.out.2.below H2.out.2 (Nat.le_refl _)⟩); clear Hz))
  refine ret_pair (s := 4) (s2 := 5) (ad := ⟨w.heap.size, 0, none⟩) rfl rfl (load_rqS _ _ _ _ _ _ _ _ H3.out.1) rfl rfl ?_
  exact ⟨rfl, H3.out.2⟩
theorem now_com {w : World} {b : Nat} {p : Pl} (h : BxAt w b (nowC p) 76) (hp : p.pre.length = 16) : w.rangeAt b 17 (sC p.com) := fun q u hq => by
  rw [Nat.add_comm]
  refine h.cell (q + 17) u ?_
  rw [nowC, show q + 17 = q + 16 + 1 by omega, List.getElem?_cons_succ, List.getElem?_append_right (by rw [sC_len, hp]; omega), sC_len, hp, show q + 16 - 16 = q by omega]
  exact hq
def sizeP (p : Pp) : Int := 32 - (cntS p.pre ⟨#[]⟩ : Int) - (cntS p.com ⟨#[]⟩ : Int) + (if p.pro.size = 0 then 0 else 1)
theorem cntS_le (L : List ByteArray) (t : ByteArray) (h : L.length = 16) : cntS L t ≤ 16 := by rw [← h]; exact List.countP_le_length
set_option maxRecDepth 100000 in
set_option maxHeartbeats 3200000 in
theorem ssize_any (p : Pl) (hp : PlOk p) (w : World) : Calls Try.prog 41 #[.agg (nowC p).toArray] w fun e w' => e = .returned (.int .i64 (sizeP p.pp)) ∧ Below w.heap.size w w' := by
  have hc1 := cntS_le p.pre ⟨#[]⟩ hp.pre
  have hc2 := cntS_le p.com ⟨#[]⟩ hp.com
  have HL : Hid (p.pre.length = 16 ∧ p.com.length = 16 ∧ (sC p.pre).length = 16 ∧ (sC p.com).length = 16) := hid ⟨hp.pre, hp.com, by rw [sC_len]; exact hp.pre, by rw [sC_len]; exact hp.com⟩
  have HC1 : Hid (∀ u : World, Calls Try.prog 61 #[.agg (sC p.pre).toArray, .string ⟨#[]⟩] u fun e w' => e = .returned (.int .i64 (cntS p.pre ⟨#[]⟩ : Int)) ∧ Below u.heap.size u w') := hid (fun u => scount_any p.pre hp.pre ⟨#[]⟩ u)
  have HC2 : Hid (∀ u : World, Calls Try.prog 61 #[.agg (sC p.com).toArray, .string ⟨#[]⟩] u fun e w' => e = .returned (.int .i64 (cntS p.com ⟨#[]⟩ : Int)) ∧ Below u.heap.size u w') := hid (fun u => scount_any p.com hp.com ⟨#[]⟩ u)
  obtain ⟨Z, eZ⟩ : ∃ Z, Z = sizeP p.pp := ⟨_, rfl⟩
  have HZ : Hid (Z = 32 - (cntS p.pre ⟨#[]⟩ : Int) - (cntS p.com ⟨#[]⟩ : Int) + (if p.pro.size = 0 then 0 else 1)) := hid eZ
  rw [← eZ]
  clear eZ
  generalize cntS p.pre ⟨#[]⟩ = C1 at HC1 HZ hc1
  generalize cntS p.com ⟨#[]⟩ = C2 at HC2 HZ hc2
  have hw1 : IntKind.i64.wrap (32 - (C1 : Int)) = 32 - (C1 : Int) := wrap_small _ (by omega) (by omega)
  have hw2 : IntKind.i64.wrap (32 - (C1 : Int) - (C2 : Int)) = 32 - (C1 : Int) - (C2 : Int) := wrap_small _ (by omega) (by omega)
  have hw3 : IntKind.i64.wrap (32 - (C1 : Int) - (C2 : Int) + 1) = 32 - (C1 : Int) - (C2 : Int) + 1 := wrap_small _ (by omega) (by omega)
  have hbA : Below w.heap.size w (w.alloc (.cells (nowC p).toArray 76)) := (Below.refl _ _).alloc (Nat.le_refl _) _
  have H0 : Hid (BxAt (w.alloc (.cells (nowC p).toArray 76)) w.heap.size (nowC p) 76 ∧ Below w.heap.size w (w.alloc (.cells (nowC p).toArray 76))) := hid ⟨heap_alloc_last w _, hbA⟩
  clear hp hc1 hc2 hbA
  by_cases hz : p.pro.size = 0
  · have hE := toList_nil hz
    have HZ2 : Hid (Z = 32 - (C1 : Int) - (C2 : Int)) := hid (by have := HZ.out; rw [if_pos hz] at this; rw [this]; omega)
    clear hz
    go_enter Try.func41, Try.ntmps41
    go_wp2_with (first
      | (refine wl_box_arr rfl _ _ rfl _ rfl ?_))
    obtain ⟨wa, ea⟩ : ∃ wa, wa = w.alloc (.cells (nowC p).toArray 76) := ⟨_, rfl⟩
    rw [← ea] at H0 ⊢
    clear ea
    have HD : Hid (BxAt wa.drew w.heap.size (nowC p) 76 ∧ Below w.heap.size w wa.drew) := hid ⟨H0.out.1, H0.out.2.drew⟩
    have HS : Hid (BxAt wa.drew w.heap.size (nowC p) 76) := hid HD.out.1
    refine wp_region_G (S := fun ww => BxAt ww w.heap.size (nowC p) 76) (ex := []) (by kernel_rfl) ?_
    try (change wpAnyG _ _ _ _ _ _ _ _ _ (World.drew _))
    refine wpAnyG_take (i := 0) (v := ?v1) rfl (by kernel_rfl) (fun _ _ _ h => h) (Or.inl ⟨by rfl, ?hy1⟩) HS.out ?rest1
    case hy1 => (intro ww _; go_simp; try with_reducible rfl)
    go_simp
    refine wpAnyG_take (i := 1) (v := .agg (sC p.pre).toArray) rfl (by kernel_rfl) (fun _ _ _ h => h) (yieldsIf_load_mid (by rfl) 74 _ rfl w.heap.size 1 rfl (sC p.pre) _ (fun _ hS => now_pre hS HL.out.1) Try.underlying74 rfl (by rw [HL.out.2.2.1]; kernel_rfl)) HS.out ?rest98
    go_simp
    refine wpAnyG_take (i := 4) (v := ?v2) rfl (by kernel_rfl) (fun _ _ _ h => h) (Or.inl ⟨by rfl, ?hy2⟩) HS.out ?rest2
    case hy2 => (intro ww _; go_simp; try with_reducible rfl)
    go_simp
    refine wpAnyG_take (i := 5) (v := .agg (sC p.com).toArray) rfl (by kernel_rfl) (fun _ _ _ h => h) (yieldsIf_load_mid (by rfl) 74 _ rfl w.heap.size 17 rfl (sC p.com) _ (fun _ hS => now_com hS HL.out.1) Try.underlying74 rfl (by rw [HL.out.2.2.2]; kernel_rfl)) HS.out ?rest99
    go_simp
    refine wpAnyG_all (rs := [2]) (by kernel_rfl) (by simp) ?_
    intro i hi
    obtain rfl := List.mem_singleton.1 hi
    clear hi
    refine wpOp_s rfl (by rfl) (fun K hK => ?_)
    go_simp
    refine (HC1.out _).mono ?_
    rintro e w2 ⟨rfl, hb2⟩
    have H2 : Hid (BxAt w2 w.heap.size (nowC p) 76 ∧ Below w.heap.size w w2) := hid ⟨HD.out.1.keep hb2, HD.out.2.trans (hb2.mono HD.out.2.size)⟩
    clear hb2
    refine hK _ _ ⟨fun _ => H2.out.1, ?_⟩
    clear hK K
    go_simp
    refine wpAnyG_take (i := 3) (v := ?v3) rfl (by kernel_rfl) (fun _ _ _ h => h) (Or.inl ⟨by rfl, ?hy3⟩) H2.out.1 ?rest3
    case hy3 => (intro ww _; go_simp; try with_reducible rfl)
    go_simp
    refine wpAnyG_all (rs := [6]) (by kernel_rfl) (by simp) ?_
    intro i hi
    obtain rfl := List.mem_singleton.1 hi
    clear hi
    refine wpOp_s rfl (by rfl) (fun K hK => ?_)
    go_simp
    refine (HC2.out _).mono ?_
    rintro e w3 ⟨rfl, hb3⟩
    have H3 : Hid (BxAt w3 w.heap.size (nowC p) 76 ∧ Below w.heap.size w w3) := hid ⟨H2.out.1.keep hb3, H2.out.2.trans (hb3.mono H2.out.2.size)⟩
    clear hb3
    refine hK _ _ ⟨fun _ => H3.out.1, ?_⟩
    clear hK K
    go_simp
    refine wpAnyG_take (i := 7) (v := ?v4) rfl (by kernel_rfl) (fun _ _ _ h => h) (Or.inl ⟨by rfl, ?hy4⟩) H3.out.1 ?rest4
    case hy4 => (intro ww _; go_simp; try with_reducible rfl)
    go_simp
    refine wpAnyG_take (i := 8) (v := ?v5) rfl (by kernel_rfl) (fun _ _ _ h => h) (Or.inl ⟨by rfl, ?hy5⟩) H3.out.1 ?rest5
    case hy5 => (intro ww _; go_simp; try with_reducible rfl)
    go_simp
    refine wpAnyG_done (by kernel_rfl) ?_ _
    go_simp
    have y0 : w3.cell? ⟨w.heap.size, 0, none⟩ = some (.string p.pro) := H3.out.1.cell 0 _ rfl
    go_wp2
    go_ret
    exact ⟨by rw [HZ2.out]; rfl, H3.out.2⟩
  · have hE := toList_cons hz
    have HZ2 : Hid (Z = 32 - (C1 : Int) - (C2 : Int) + 1) := hid (by have := HZ.out; rw [if_neg hz] at this; rw [this])
    clear hz
    go_enter Try.func41, Try.ntmps41
    go_wp2_with (first
      | (refine wl_box_arr rfl _ _ rfl _ rfl ?_))
    obtain ⟨wa, ea⟩ : ∃ wa, wa = w.alloc (.cells (nowC p).toArray 76) := ⟨_, rfl⟩
    rw [← ea] at H0 ⊢
    clear ea
    have HD : Hid (BxAt wa.drew w.heap.size (nowC p) 76 ∧ Below w.heap.size w wa.drew) := hid ⟨H0.out.1, H0.out.2.drew⟩
    have HS : Hid (BxAt wa.drew w.heap.size (nowC p) 76) := hid HD.out.1
    refine wp_region_G (S := fun ww => BxAt ww w.heap.size (nowC p) 76) (ex := []) (by kernel_rfl) ?_
    try (change wpAnyG _ _ _ _ _ _ _ _ _ (World.drew _))
    refine wpAnyG_take (i := 0) (v := ?v301) rfl (by kernel_rfl) (fun _ _ _ h => h) (Or.inl ⟨by rfl, ?hy301⟩) HS.out ?rest301
    case hy301 => (intro ww _; go_simp; try with_reducible rfl)
    go_simp
    refine wpAnyG_take (i := 1) (v := .agg (sC p.pre).toArray) rfl (by kernel_rfl) (fun _ _ _ h => h) (yieldsIf_load_mid (by rfl) 74 _ rfl w.heap.size 1 rfl (sC p.pre) _ (fun _ hS => now_pre hS HL.out.1) Try.underlying74 rfl (by rw [HL.out.2.2.1]; kernel_rfl)) HS.out ?rest398
    go_simp
    refine wpAnyG_take (i := 4) (v := ?v302) rfl (by kernel_rfl) (fun _ _ _ h => h) (Or.inl ⟨by rfl, ?hy302⟩) HS.out ?rest302
    case hy302 => (intro ww _; go_simp; try with_reducible rfl)
    go_simp
    refine wpAnyG_take (i := 5) (v := .agg (sC p.com).toArray) rfl (by kernel_rfl) (fun _ _ _ h => h) (yieldsIf_load_mid (by rfl) 74 _ rfl w.heap.size 17 rfl (sC p.com) _ (fun _ hS => now_com hS HL.out.1) Try.underlying74 rfl (by rw [HL.out.2.2.2]; kernel_rfl)) HS.out ?rest399
    go_simp
    refine wpAnyG_all (rs := [2]) (by kernel_rfl) (by simp) ?_
    intro i hi
    obtain rfl := List.mem_singleton.1 hi
    clear hi
    refine wpOp_s rfl (by rfl) (fun K hK => ?_)
    go_simp
    refine (HC1.out _).mono ?_
    rintro e w2 ⟨rfl, hb2⟩
    have H2 : Hid (BxAt w2 w.heap.size (nowC p) 76 ∧ Below w.heap.size w w2) := hid ⟨HD.out.1.keep hb2, HD.out.2.trans (hb2.mono HD.out.2.size)⟩
    clear hb2
    refine hK _ _ ⟨fun _ => H2.out.1, ?_⟩
    clear hK K
    go_simp
    refine wpAnyG_take (i := 3) (v := ?v303) rfl (by kernel_rfl) (fun _ _ _ h => h) (Or.inl ⟨by rfl, ?hy303⟩) H2.out.1 ?rest303
    case hy303 => (intro ww _; go_simp; try with_reducible rfl)
    go_simp
    refine wpAnyG_all (rs := [6]) (by kernel_rfl) (by simp) ?_
    intro i hi
    obtain rfl := List.mem_singleton.1 hi
    clear hi
    refine wpOp_s rfl (by rfl) (fun K hK => ?_)
    go_simp
    refine (HC2.out _).mono ?_
    rintro e w3 ⟨rfl, hb3⟩
    have H3 : Hid (BxAt w3 w.heap.size (nowC p) 76 ∧ Below w.heap.size w w3) := hid ⟨H2.out.1.keep hb3, H2.out.2.trans (hb3.mono H2.out.2.size)⟩
    clear hb3
    refine hK _ _ ⟨fun _ => H3.out.1, ?_⟩
    clear hK K
    go_simp
    refine wpAnyG_take (i := 7) (v := ?v304) rfl (by kernel_rfl) (fun _ _ _ h => h) (Or.inl ⟨by rfl, ?hy304⟩) H3.out.1 ?rest304
    case hy304 => (intro ww _; go_simp; try with_reducible rfl)
    go_simp
    refine wpAnyG_take (i := 8) (v := ?v305) rfl (by kernel_rfl) (fun _ _ _ h => h) (Or.inl ⟨by rfl, ?hy305⟩) H3.out.1 ?rest305
    case hy305 => (intro ww _; go_simp; try with_reducible rfl)
    go_simp
    refine wpAnyG_done (by kernel_rfl) ?_ _
    go_simp
    have y0 : w3.cell? ⟨w.heap.size, 0, none⟩ = some (.string p.pro) := H3.out.1.cell 0 _ rfl
    go_wp2
    go_ret
    exact ⟨by rw [HZ2.out]; rfl, H3.out.2⟩
end Go.Proofs.Ytohhlolmojeomaa

/- Size, Enter. -/
namespace Go.Proofs.Ytohhlolmojeomaa
open Go.RowKit

def nilV2 : Value := .slice none 0 0
def zPl : Pl := ⟨⟨#[]⟩, emL, emL, (ct0, nilV2), ⟨#[]⟩⟩
theorem zPl_ok : PlOk zPl := ⟨rfl, rfl⟩
theorem place_zero : (Try.prog.info? 78).map (fun i => (i.zero, i.size)) = some (some (.agg (plC zPl).toArray), 43) := by kernel_rfl
theorem round_built (w0 : World) : (Instr.build 76 #[]).run Try.prog w0 = .ok (.agg (.string ⟨#[]⟩ :: (sC emL ++ sC emL)).toArray) w0 := by kernel_rfl
theorem plC_one {p : Pl} : (∀ u, u ∈ plC p → u.oneCell' = true) ↔ p.ct.2.oneCell' = true := by
  constructor
  · intro h
    exact h _ (by simp [plC, ctC])
  · intro h u hu
    simp only [plC, sC, ctC, List.mem_cons, List.mem_append, List.mem_map, List.not_mem_nil, or_false] at hu
    rcases hu with e | ⟨x, _, e⟩ | ⟨x, _, e⟩ | (e | e | e | e | e | e | e | e | e) | e <;> first | (rw [e]; exact h) | (rw [e]; rfl) | (rw [← e]; rfl)
theorem ctlie_one {w : World} {N : Nat} {p : Pl} (h : CtLie w N p) : (plC p).toArray.all (·.oneCell') = true := by
  obtain ⟨a, k, e, _, _⟩ := h
  rw [Array.all_eq_true']
  intro u hu
  exact plC_one.2 (by rw [e]; rfl) u (by simpa using hu)
theorem flat_ext {ps : List Pl} (hps : ∀ p, p ∈ ps → PlOk p) {i : Nat} {p : Pl} (h : ps[i]? = some p) : (ps.flatMap plC).toArray.extract (i * 43) (i * 43 + 43) = (plC p).toArray := by
  obtain ⟨hl, _⟩ := List.getElem?_eq_some_iff.1 h
  have h1 : ((ps.take i).flatMap plC).length = i * 43 := by
    rw [flat_len43 (fun x hx => hps x (List.mem_of_mem_take hx)), List.length_take, Nat.min_eq_left (Nat.le_of_lt hl)]
  apply Array.ext'
  rw [List.extract_toArray, List.extract_eq_take_drop, row_split h, Nat.add_sub_cancel_left, ← h1, List.drop_left]
  have h3 := plC_len (hps p (List.mem_of_getElem? h))
  rw [← h3, List.take_left]
theorem SlA.places {w : World} {g : Nat} {ep : Int} {am : Option Addr} {cm : Nat} {l : List Int} {v : Int} {ps : List Pl} (h : SlA w g ep am cm l v ps) : w.rangeAt g 3 (ps.flatMap plC) := fun q u hq => by
  rw [Nat.add_comm]
  refine cell_at h.blk (q + 3) u ?_
  rw [lgC, List.getElem?_cons_succ, List.getElem?_cons_succ, List.getElem?_cons_succ]
  exact hq
def sumTo (ps : List Pl) (j : Nat) : Int := ((ps.take j).map fun p => sizeP p.pp).sum
theorem sumTo_succ {ps : List Pl} {j : Nat} {p : Pl} (h : ps[j]? = some p) : sumTo ps (j + 1) = sumTo ps j + sizeP p.pp := by
  obtain ⟨hl, he⟩ := List.getElem?_eq_some_iff.1 h
  rw [sumTo, sumTo, List.take_succ_eq_append_getElem hl, he, List.map_append, List.sum_append]
  simp
theorem sizeP_in {p : Pl} (h : PlOk p) : 0 ≤ sizeP p.pp ∧ sizeP p.pp ≤ 33 := by
  have h1 := cntS_le p.pre ⟨#[]⟩ h.pre
  have h2 := cntS_le p.com ⟨#[]⟩ h.com
  have e : sizeP p.pp = 32 - (cntS p.pre ⟨#[]⟩ : Int) - (cntS p.com ⟨#[]⟩ : Int) + (if p.pro.size = 0 then 0 else 1) := rfl
  rw [e]
  split <;> omega
theorem sumTo_in {ps : List Pl} (h : ∀ p, p ∈ ps → PlOk p) : ∀ j, j ≤ ps.length → 0 ≤ sumTo ps j ∧ sumTo ps j ≤ 33 * (j : Int)
  | 0, _ => ⟨Int.le_refl _, Int.le_refl _⟩
  | j + 1, hj => by
    have hp : ps[j]? = some ps[j] := List.getElem?_eq_getElem (by omega)
    have h1 := sumTo_in h j (by omega)
    have h2 := sizeP_in (h _ (List.mem_of_getElem? hp))
    rw [sumTo_succ hp]
    omega
theorem place_now {w2 : World} {b : Nat} {p : Pl} (h : w2.heap[b]? = some (.cells (plC p).toArray 78 (0, 0))) : w2.rangeAt b 0 (nowC p) := fun q u hq => by
  rw [Nat.zero_add]
  refine cell_at h q u ?_
  have e1 : plC p = nowC p ++ (ctC p.ct.1 p.ct.2 ++ [.string p.don]) := by simp [plC, nowC]
  rw [e1, List.getElem?_append_left (List.getElem?_eq_some_iff.1 hq).1]
  exact hq
theorem stored_place {wr w2 : World} {p : Pl} (hl : (plC p).length = 43) (Hz : w2.heap[wr.heap.size]? = some (.cells (setAt (plC zPl) 0 (plC p).toArray.toList).toArray 78 (0, 0)) ∧ One wr.heap.size (wr.alloc (.cells (plC zPl).toArray 78)) w2) : w2.heap[wr.heap.size]? = some (.cells (plC p).toArray 78 (0, 0)) ∧ Below wr.heap.size wr w2 := by
  have := setAt_mid (plC p) [] (plC zPl) [] (by rw [hl, plC_len zPl_ok])
  simp only [List.nil_append, List.append_nil, List.length_nil] at this
  refine ⟨by rw [← this]; exact Hz.1, Hz.2.below ((Below.refl _ _).alloc (Nat.le_refl _) _) (Nat.le_refl _)⟩
set_option maxRecDepth 100000 in
set_option maxHeartbeats 3200000 in
theorem sSize_nil (w : World) : Calls Try.prog 19 #[.pointer none] w fun e w' => e = .returned (.int .i64 0) ∧ w' = w := by
  go_enter Try.func19, Try.ntmps19
  go_wp2_with (go_at_call 33; go_must (refine (snone_nil _).mono ?_); rintro e w1 ⟨rfl, hw1⟩; replace hw1 := hw1.symm; subst hw1)
  go_ret
  exact ⟨rfl, rfl⟩
set_option maxRecDepth 100000 in
set_option maxHeartbeats 3200000 in
theorem sSize_any (N g : Nat) (ep : Int) (am : Option Addr) (cm : Nat) (l : List Int) (v : Int) (ps : List Pl) (w : World) (h : LgM w N g ep am cm l v ps) (hl : 0 < l.length) : Calls Try.prog 19 #[.pointer (some ⟨g, 0, none⟩)] w fun e w' => e = .returned (.int .i64 (sumTo ps 4)) ∧ Below w.heap.size w w' := by
  have HN := hid (snone_any g ep am cm l v ps w h.at_ hl)
  have HL := hid h
  have HFl : Hid ((ps.flatMap plC).length = 172) := hid (by rw [flat_len43 h.at_.ok, h.at_.four])
  clear h hl
  go_enter Try.func19, Try.ntmps19
  go_wp2_with (first
    | (go_at_call 33; go_must (refine HN.out.mono ?_); rintro e w1 ⟨rfl, hw1⟩; replace hw1 := hw1.symm; subst hw1)
    | (refine wl_load_at rfl 79 _ rfl g 3 rfl (ps.flatMap plC) HL.out.at_.places _ Try.underlying79 rfl (by rw [HFl.out]; kernel_rfl) ?_))
  go_loopw [3, 12] (fun c i wr => ∃ j : Nat, j ≤ 4 ∧ i = .int .i64 (j : Int) ∧ c = .int .i64 (sumTo ps j) ∧ Below w.heap.size w wr) (fun _ i _ => ((4 : Int) - intOf i).toNat)
  case atStart => exact ⟨0, by omega, rfl, rfl, Below.refl _ _⟩
  case round =>
    obtain ⟨j, hj, rfl, rfl, hb⟩ := hrel
    have HB := hid hb
    have hj0 : (0 : Int) ≤ (j : Int) := Int.natCast_nonneg _
    by_cases hjn : j = 4
    · subst hjn
      clear hb hj
      go_wp2
      go_ret
      exact ⟨rfl, HB.out⟩
    · have hj1 : (j : Int) < 4 := by omega
      obtain ⟨p, hp⟩ : ∃ p, ps[j]? = some p := ⟨_, List.getElem?_eq_getElem (by rw [HL.out.at_.four]; omega)⟩
      have hm := List.mem_of_getElem? hp
      have hok := HL.out.at_.ok p hm
      have HPl : Hid ((plC p).length = 43 ∧ (plC p).toArray.all (·.oneCell') = true) := hid ⟨plC_len hok, ctlie_one (HL.out.rd p hm)⟩
      have HExt : Hid ((ps.flatMap plC).toArray.extract (((j : Nat) : Int).toNat * 43) (((j : Nat) : Int).toNat * 43 + 43) = (plC p).toArray) := hid (by rw [Int.toNat_natCast]; exact flat_ext HL.out.at_.ok hp)
      have hin := sumTo_in HL.out.at_.ok j (by rw [HL.out.at_.four]; omega)
      have hin2 := sizeP_in hok
      have HSu := hid (sumTo_succ hp)
      have HSz : Hid (∀ u : World, Calls Try.prog 41 #[.agg (nowC p).toArray] u fun e w' => e = .returned (.int .i64 (sizeP p.pp)) ∧ Below u.heap.size u w') := hid (fun u => ssize_any p hok u)
      have HNow : Hid ((nowC p).length = 33) := hid (nowC_len hok)
      have HJ := hid (And.intro hj hjn)
      generalize sumTo ps j = C at hin HSu ⊢
      generalize sizeP p.pp = D at hin2 HSu HSz
      have hw1 : IntKind.i64.wrap (C + D) = C + D := wrap_small _ (by omega) (by omega)
      have hw2 : IntKind.i64.wrap ((j : Int) + 1) = (j : Int) + 1 := wrap_small _ (by omega) (by omega)
      clear hb hj hjn hp hm hok hin hin2
      go_wp2_with (first
        | (refine wl_index_agg rfl 79 _ _ rfl _ rfl .i64 (j : Int) rfl 4 78 Try.underlying79 _ Try.underlying78 rfl 43 (by kernel_rfl) hj0 hj1 (plC p).toArray HExt.out ?_)
        | (refine wl_alloc_arr rfl 78 rfl (plC zPl).toArray 43 place_zero ?_)
        | (refine wl_store_blk rfl 78 _ _ rfl wr.heap.size 0 rfl (plC p).toArray rfl (plC zPl) 78 (heap_alloc_last wr _) (by have := HPl.out.1; simp [this, plC_len zPl_ok]) (by rw [show (plC p).toArray.size = 43 from HPl.out.1]; kernel_rfl) HPl.out.2 ?_; intro w2 Hz; have H2 : Hid (w2.heap[wr.heap.size]? = some (.cells (plC p).toArray 78 (0, 0)) ∧ Below wr.heap.size wr w2) := hid (stored_place HPl.out.1 Hz.out); clear Hz)
        | (refine wl_load_at rfl 76 _ rfl wr.heap.size 0 rfl (nowC p) (place_now H2.out.1) _ Try.underlying76 rfl (by rw [HNow.out]; kernel_rfl) ?_)
        | (go_at_call 41; go_must (refine (HSz.out _).mono ?_); rintro e w3 ⟨rfl, hb3⟩; have H3 := hid (H2.out.2.trans (hb3.mono H2.out.2.size)); clear hb3))
      go_roundw
      case rel => exact ⟨j + 1, by have := HJ.out; omega, by go_num, by rw [HSu.out], HB.out.trans (H3.out.mono HB.out.size)⟩
      case measure => simp [intOf]; omega
end Go.Proofs.Ytohhlolmojeomaa

/- Enter, New. -/
namespace Go.Proofs.Ytohhlolmojeomaa
open Go.RowKit

section
variable {o : Oper} {a : Act} {w : World} {K : Act → World → Prop} {Q : Exit → Act → World → Prop} {ops : Array Oper} {rest : List Oper}
theorem wl_build_run (hgd : o.guard = none) (t : TypeId) (parts : Array (Nat × Operand)) (ho : o.op = .build t parts) (v : Value) (hrun : (Instr.build t (parts.map fun (i, x) => (i, a.eval x))).run Try.prog w = .ok v w)
    (h : wpList Try.prog ops Q rest (a.put o.dst v) w) : wpList Try.prog ops Q (o :: rest) a w := by
  refine wpList_plain hgd fun _ hK => ?_
  refine owp_value (v := v) (w' := w) ?_ (hK _ _ h)
  simp [execOp, ho, hrun, Result.andThen]
theorem owp_buildS (t : TypeId) (parts : Array (Nat × Operand)) (ho : o.op = .build t parts) (ps : List (Nat × Value)) (hps : (parts.map fun (i, x) => (i, a.eval x)).toList = ps) (cells : Array Value) (hb : Try.prog.built t ps = some cells) (h : K (a.put o.dst (.agg cells)) w) : o.wp Try.prog a w K Q := by
  subst hps
  unfold Oper.wp execOp
  simp only [ho, Sem.run_bind, run_build w t _ cells hb, Result.andThen_ok]
  exact h
theorem owp_box_aggS (t : TypeId) (x : Operand) (ho : o.op = .box t x) (c : Array Value) (hx : a.eval x = .agg c)
    (h : K (a.put o.dst (.pointer (some ⟨w.heap.size, 0, none⟩))) (w.alloc (.cells c t))) : o.wp Try.prog a w K Q := by
  refine owp_value (v := .pointer (some ⟨w.heap.size, 0, none⟩)) (w' := w.alloc (.cells c t)) ?_ h
  simp [execOp, ho, Instr.box, hx, newVar, newRow, newObj, Value.cells, Result.andThen]
  rfl
end
def clrP (p : Pl) : Pl := { p with pro := ⟨#[]⟩, pre := emL, com := emL }
def clrTo (ps : List Pl) (j : Nat) : List Pl := (ps.take j).map clrP ++ ps.drop j
theorem clrTo_at {ps : List Pl} {j : Nat} {p : Pl} (h : ps[j]? = some p) : (clrTo ps j)[j]? = some p := by
  obtain ⟨hl, he⟩ := List.getElem?_eq_some_iff.1 h
  have h1 : ((ps.take j).map clrP).length = j := by rw [List.length_map, List.length_take]; omega
  rw [clrTo, List.getElem?_append_right (by omega), h1, Nat.sub_self, List.getElem?_drop, Nat.add_zero]
  exact h
theorem clrTo_succ {ps : List Pl} {j : Nat} {p : Pl} (h : ps[j]? = some p) : (clrTo ps j).set j (clrP p) = clrTo ps (j + 1) := by
  obtain ⟨hl, he⟩ := List.getElem?_eq_some_iff.1 h
  have h1 : ((ps.take j).map clrP).length = j := by rw [List.length_map, List.length_take]; omega
  rw [clrTo, clrTo, List.set_append_right _ _ (by omega), h1, Nat.sub_self, List.drop_eq_getElem_cons hl, he, List.set_cons_zero, List.take_succ_eq_append_getElem hl, he, List.map_append, List.append_assoc]
  rfl
theorem clrTo_all (ps : List Pl) (n : Nat) (h : ps.length = n) : clrTo ps n = ps.map clrP := by rw [clrTo, ← h, List.take_length, List.drop_length, List.append_nil]
theorem LgM.setv {w w2 : World} {N g : Nat} {ep : Int} {am : Option Addr} {cm : Nat} {l : List Int} {v : Int} {ps : List Pl} (h : LgM w N g ep am cm l v ps) (x : Int) (Hz : w2.heap[g]? = some (.cells ((lgC ep (.slice am l.length cm) v ps).set 2 (.int .i64 x)).toArray 81 (0, 0)) ∧ One g w w2) : LgM w2 N g ep am cm l x ps ∧ But g w w2 :=
  ⟨⟨⟨Hz.1, Hz.2.but.ints h.at_.mem h.mem, h.at_.four, h.at_.ok⟩, h.lt, Nat.le_trans h.sz Hz.2.but.size, h.mem, fun p hp => (h.rd p hp).but Hz.2.but h.lt⟩, Hz.2.but⟩
theorem LgM.clear {w w2 : World} {N g : Nat} {ep : Int} {am : Option Addr} {cm : Nat} {l : List Int} {v : Int} {ps : List Pl} (h : LgM w N g ep am cm l v ps) {j : Nat} {p : Pl} (hp : ps[j]? = some p) (Hz : w2.heap[g]? = some (.cells (setAt (lgC ep (.slice am l.length cm) v ps) (3 + j * 43) (.string ⟨#[]⟩ :: (sC emL ++ sC emL))).toArray 81 (0, 0)) ∧ One g w w2) : LgM w2 N g ep am cm l v (ps.set j (clrP p)) ∧ But g w w2 := by
  have hok := h.at_.ok p (List.mem_of_getElem? hp)
  obtain ⟨a, k, h1, h2, h3⟩ := (h.rd p (List.mem_of_getElem? hp)).but Hz.2.but h.lt
  exact ⟨h.put j p (clrP p) 0 _ hp (by simp [sC_len, emL]) (plC_setnow hok) ⟨rfl, rfl⟩ Hz.2.but Hz.1 ⟨a, k, h1, h2, h3⟩, Hz.2.but⟩
theorem nowz_one : (Value.string ⟨#[]⟩ :: (sC emL ++ sC emL)).toArray.all (·.oneCell') = true := by decide +kernel
theorem nowz_len : (Value.string ⟨#[]⟩ :: (sC emL ++ sC emL)).toArray.size = 33 := by decide +kernel
set_option maxRecDepth 100000 in
set_option maxHeartbeats 3200000 in
theorem senter_nil (x : Int) (w : World) : Calls Try.prog 25 #[.pointer none, .int .i64 x] w fun e w' => e = .returned (.int .i64 1) ∧ w' = w := by
  go_enter Try.func25, Try.ntmps25
  go_wp2_with (go_at_call 33; go_must (refine (snone_nil _).mono ?_); rintro e w1 ⟨rfl, hw1⟩; replace hw1 := hw1.symm; subst hw1)
  go_ret
  exact ⟨rfl, rfl⟩
set_option maxRecDepth 100000 in
set_option maxHeartbeats 3200000 in
theorem senter_low (g : Nat) (ep : Int) (am : Option Addr) (cm : Nat) (l : List Int) (v : Int) (ps : List Pl) (x : Int) (w : World) (h : SlA w g ep am cm l v ps) (hl : 0 < l.length) (hx : x ≤ v) : Calls Try.prog 25 #[.pointer (some ⟨g, 0, none⟩), .int .i64 x] w fun e w' => e = .returned (.int .i64 13) ∧ Below w.heap.size w w' := by
  have HN := hid (snone_any g ep am cm l v ps w h hl)
  have c2 := h.c2
  clear h hl
  go_enter Try.func25, Try.ntmps25
  go_wp2_with (first | (go_at_call 33; go_must (refine HN.out.mono ?_); rintro e w1 ⟨rfl, hw1⟩; replace hw1 := hw1.symm; subst hw1))
  go_ret
  exact ⟨rfl, Below.refl _ _⟩
set_option maxRecDepth 100000 in
set_option maxHeartbeats 3200000 in
theorem senter_high (g : Nat) (ep : Int) (am : Option Addr) (cm : Nat) (l : List Int) (v : Int) (ps : List Pl) (x : Int) (w : World) (h : SlA w g ep am cm l v ps) (hl : 0 < l.length) (hx : ¬ x ≤ v) (hx2 : 15 < x) : Calls Try.prog 25 #[.pointer (some ⟨g, 0, none⟩), .int .i64 x] w fun e w' => e = .returned (.int .i64 13) ∧ Below w.heap.size w w' := by
  have HN := hid (snone_any g ep am cm l v ps w h hl)
  have c2 := h.c2
  clear h hl
  go_enter Try.func25, Try.ntmps25
  go_wp2_with (first | (go_at_call 33; go_must (refine HN.out.mono ?_); rintro e w1 ⟨rfl, hw1⟩; replace hw1 := hw1.symm; subst hw1))
  go_ret
  exact ⟨rfl, Below.refl _ _⟩
set_option maxRecDepth 100000 in
set_option maxHeartbeats 3200000 in
theorem senter_yes (N g : Nat) (ep : Int) (am : Option Addr) (cm : Nat) (l : List Int) (v : Int) (ps : List Pl) (x : Int) (w : World) (h : LgM w N g ep am cm l v ps) (hl : 0 < l.length) (hx : ¬ x ≤ v) (hx2 : ¬ 15 < x) : Calls Try.prog 25 #[.pointer (some ⟨g, 0, none⟩), .int .i64 x] w fun e w' => e = .returned (.int .i64 0) ∧ LgM w' N g ep am cm l x (ps.map clrP) ∧ But g w w' := by
  have HN := hid (snone_any g ep am cm l v ps w h.at_ hl)
  have c2 := h.at_.c2
  have HL := hid h
  have HLen : Hid ((lgC ep (.slice am l.length cm) v ps).length = 175 ∧ ps.length = 4) := hid ⟨by rw [lgC]; simp [flat_len43 h.at_.ok, h.at_.four], h.at_.four⟩
  clear h hl
  go_enter Try.func25, Try.ntmps25
  go_wp2_with (first
    | (go_at_call 33; go_must (refine HN.out.mono ?_); rintro e w1 ⟨rfl, hw1⟩; replace hw1 := hw1.symm; subst hw1)
    | (refine wl_storeV rfl 3 _ _ rfl g 2 rfl (.int .i64 x) rfl rfl rfl (lgC ep (.slice am l.length cm) v ps) 81 HL.out.at_.blk (by rw [HLen.out.1]; omega) (by kernel_rfl) ?_; intro w2 Hz; have H2 := hid (HL.out.setv x Hz.out); clear Hz c2))
  go_loopw [22] (fun i wr => ∃ j : Nat, j ≤ 4 ∧ i = .int .i64 (j : Int) ∧ LgM wr N g ep am cm l x (clrTo ps j) ∧ But g w wr) (fun i _ => ((4 : Int) - intOf i).toNat)
  case atStart => exact ⟨0, by omega, rfl, H2.out.1, H2.out.2⟩
  case round =>
    obtain ⟨j, hj, rfl, hL, hb⟩ := hrel
    have HB := hid (And.intro hL hb)
    have hj0 : (0 : Int) ≤ (j : Int) := Int.natCast_nonneg _
    by_cases hjn : j = 4
    · subst hjn
      clear hb hj hL
      go_wp2
      go_ret
      exact ⟨rfl, by rw [← clrTo_all ps 4 HLen.out.2]; exact HB.out.1, HB.out.2⟩
    · have hj1 : (j : Int) < 4 := by omega
      obtain ⟨p, hp⟩ : ∃ p, ps[j]? = some p := ⟨_, List.getElem?_eq_getElem (by rw [HLen.out.2]; omega)⟩
      have HPj : Hid ((clrTo ps j)[j]? = some p ∧ (clrTo ps j).set j (clrP p) = clrTo ps (j + 1)) := hid ⟨clrTo_at hp, clrTo_succ hp⟩
      have HLn : Hid ((lgC ep (.slice am l.length cm) x (clrTo ps j)).length = 175) := hid (by rw [lgC]; simp [flat_len43 hL.at_.ok, hL.at_.four])
      have hw2 : IntKind.i64.wrap ((j : Int) + 1) = (j : Int) + 1 := wrap_small _ (by omega) (by omega)
      have HJ := hid (And.intro hj hjn)
      clear hb hj hL hjn hp
      go_wp2_with (first
        | (refine wl_build_run rfl 76 _ rfl (.agg (.string ⟨#[]⟩ :: (sC emL ++ sC emL)).toArray) (round_built _) ?_)
        | (refine wl_store_blk rfl 76 _ _ rfl g (3 + j * 43) (by first | rfl | (simp; done)) (.string ⟨#[]⟩ :: (sC emL ++ sC emL)).toArray rfl (lgC ep (.slice am l.length cm) x (clrTo ps j)) 81 HB.out.1.at_.blk (by rw [HLn.out, nowz_len]; have := HJ.out; omega) (by rw [nowz_len]; kernel_rfl) nowz_one ?_; intro w3 Hz; have H3 := hid (HB.out.1.clear HPj.out.1 Hz.out); clear Hz))
      go_roundw
      case rel => exact ⟨j + 1, by have := HJ.out; omega, by go_num, by rw [← HPj.out.2]; exact H3.out.1, HB.out.2.trans H3.out.2⟩
      case measure => simp [intOf]; omega
def z4P : List Pl := [zPl, zPl, zPl, zPl]
theorem LgM.zero {w : World} {N g : Nat} {ep : Int} {am : Option Addr} {cm : Nat} {l : List Int} {v : Int} (h : SlA w g ep am cm l v z4P) (hlt : g < N) (hsz : N ≤ w.heap.size) (hm : ∀ x, am = some x → x.block ≠ g) : LgM w N g ep am cm l v z4P :=
  ⟨h, hlt, hsz, hm, fun p hp => by
    have : p = zPl := by simpa [z4P] using hp
    rw [this]
    exact ⟨none, 0, rfl, .inl rfl, fun x hx => by cases hx⟩⟩
theorem built_log (ep : Int) (vm : Value) : Try.prog.built 81 [(0, .agg #[.int .i64 ep, vm])] = some (lgC ep vm 0 z4P).toArray := by kernel_rfl
def NewPost (w w' : World) (e : Ending) (ep : Int) (l : List Int) : Prop := ∃ g am cm, e = .returned (.tuple #[.pointer (some ⟨g, 0, none⟩), .int .i64 0]) ∧ SlA w' g ep am cm l 0 z4P ∧ w.heap.size ≤ g ∧ g < w'.heap.size ∧ (∀ x, am = some x → w.heap.size ≤ x.block ∧ x.block ≠ g) ∧ Below w.heap.size w w'
set_option maxRecDepth 100000 in
set_option maxHeartbeats 3200000 in
theorem snew_no (ep : Int) (a : Option Addr) (n cap : Nat) (l : List Int) (hn : l.length = n) (hm : n ≤ maxLen) (w : World) (hI : IntsIn w a l) (hr : rightC ep l = false) :
    Calls Try.prog 8 #[.agg #[.int .i64 ep, .slice a n cap]] w fun e w' => e = .returned (.tuple #[.pointer none, .int .i64 1]) ∧ Below w.heap.size w w' := by
  have HI := hid hI
  have HR : Hid (∀ u : World, IntsIn u a l → Calls Try.prog 31 #[.agg #[.int .i64 ep, .slice a n cap]] u fun e w' => e = .returned (.bool false) ∧ Below u.heap.size u w') := hid (fun u hu => by rw [← hr]; exact cright_any ep a n cap l hn hm u hu)
  clear hI hr
  go_enter Try.func8, Try.ntmps8
  go_wp2_with (go_at_call 31; refine (HR.out _ (by exact HI.out.alloc _)).mono ?_; rintro e w1 ⟨rfl, hb1⟩; have H1 := hid (((Below.refl w.heap.size w).alloc (Nat.le_refl _) _).trans (hb1.mono (by simp))); clear hb1)
  go_ret2
  exact ⟨rfl, H1.out⟩
set_option maxRecDepth 100000 in
set_option maxHeartbeats 3200000 in
theorem snew_yes (ep : Int) (a : Option Addr) (n cap : Nat) (l : List Int) (hn : l.length = n) (w : World) (hI : IntsIn w a l) (hr : rightC ep l = true) :
    Calls Try.prog 8 #[.agg #[.int .i64 ep, .slice a n cap]] w fun e w' => NewPost w w' e ep l := by
  have hml := mem_len (rightC_ep hr).2
  have HI := hid hI
  have HL := hid (And.intro hn (And.intro hr hml))
  have HR : Hid (∀ u : World, IntsIn u a l → Calls Try.prog 31 #[.agg #[.int .i64 ep, .slice a n cap]] u fun e w' => e = .returned (.bool true) ∧ Below u.heap.size u w') := hid (fun u hu => by rw [← hr]; exact cright_any ep a n cap l hn (by unfold maxLen; omega) u hu)
  clear hI hr hml hn
  go_enter Try.func8, Try.ntmps8
  go_wp2_with (go_at_call 31; refine (HR.out _ (by exact HI.out.alloc _)).mono ?_; rintro e w1 ⟨rfl, hb1⟩; have H1 : Hid (BxAt w1 w.heap.size [.int .i64 ep, .slice a n cap] 24 ∧ Below w.heap.size w w1) := hid ⟨(hb1.block _ (by simp)).trans (heap_alloc_last w _), ((Below.refl w.heap.size w).alloc (Nat.le_refl _) _).trans (hb1.mono (by simp))⟩; clear hb1)
  obtain ⟨wd, ed⟩ : ∃ u, u = w1.drew := ⟨_, rfl⟩
  have HB : Hid (Below w.heap.size w wd) := hid (by rw [ed]; exact H1.out.2.drew)
  have HS : Hid (BxAt wd w.heap.size [.int .i64 ep, .slice a n cap] 24) := hid (by rw [ed]; exact H1.out.1)
  refine wp_region_G (S := fun ww => BxAt ww w.heap.size [.int .i64 ep, .slice a n cap] 24) (ex := []) (by kernel_rfl) ?_
  try (change wpAnyG _ _ _ _ _ _ _ _ _ (World.drew _))
  try rw [← ed]
  clear ed
  refine wpAnyG_take (i := 0) (v := ?v1) rfl (by kernel_rfl) (fun _ _ _ h => h) (Or.inl ⟨by rfl, ?hy1⟩) HS.out ?rest1
  case hy1 => (intro ww _; go_simp; try with_reducible rfl)
  go_simp
  refine wpAnyG_take (i := 1) (v := ?v2) rfl (by kernel_rfl) (fun _ _ _ h => h) (Or.inl ⟨by rfl, ?hy2⟩) HS.out ?rest2
  case hy2 => (intro ww hS; have y0 := hS.cell 0 _ rfl; go_simp; try with_reducible rfl)
  go_simp
  refine wpAnyG_take (i := 2) (v := ?v3) rfl (by kernel_rfl) (fun _ _ _ h => h) (Or.inl ⟨by rfl, ?hy3⟩) HS.out ?rest3
  case hy3 => (intro ww _; go_simp; try with_reducible rfl)
  go_simp
  refine wpAnyG_take (i := 3) (v := ?v4) rfl (by kernel_rfl) (fun _ _ _ h => h) (Or.inl ⟨by rfl, ?hy4⟩) HS.out ?rest4
  case hy4 => (intro ww hS; have y1 := hS.cell 1 _ rfl; go_simp; try with_reducible rfl)
  go_simp
  refine wpAnyG_all (rs := [4]) (by kernel_rfl) (by simp) ?_
  intro i hi
  obtain rfl := List.mem_singleton.1 hi
  clear hi
  refine wpOp_s rfl (by rfl) (fun K hK => ?_)
  go_simp
  refine (cloneInts_any a n cap l HL.out.1 (by have := HL.out.2.2; have := HL.out.1; omega) _ (HI.out.keep HB.out (Nat.le_refl _))).mono ?_
  rintro e w2 ⟨a1, c1, rfl, hN2, hb2⟩
  have H2 : Hid (BxAt w2 w.heap.size [.int .i64 ep, .slice a n cap] 24 ∧ NewI w.heap.size w2 a1 l ∧ Below w.heap.size w w2) := hid ⟨HS.out.keep hb2, ⟨hN2.ints, fun x hx => ⟨Nat.le_trans HB.out.size (hN2.far x hx).1, (hN2.far x hx).2⟩⟩, HB.out.trans (hb2.mono HB.out.size)⟩
  clear hN2 hb2
  refine hK _ _ ⟨fun _ => H2.out.1, ?_⟩
  clear hK K
  go_simp
  refine wpAnyG_take (i := 5) (v := ?v5) rfl (by kernel_rfl) (fun _ _ _ h => h) (Or.inl ⟨by rfl, ?hy5⟩) H2.out.1 ?rest5
  case hy5 => (intro ww _; go_simp; try with_reducible rfl)
  go_simp
  refine wpAnyG_all (rs := [6]) (by kernel_rfl) (by simp) ?_
  intro i hi
  obtain rfl := List.mem_singleton.1 hi
  clear hi
  refine wpOp_s rfl (by rfl) (fun K hK => ?_)
  refine owp_buildS 81 _ rfl [(0, .agg #[.int .i64 ep, .slice a1 n c1])] (by first | (simp [Act.eval]; done) | (go_simp; done) | (simp [Act.eval]; rfl)) (lgC ep (.slice a1 n c1) 0 z4P).toArray (built_log _ _) ?_
  go_simp
  refine hK _ _ ⟨fun _ => H2.out.1, ?_⟩
  clear hK K
  go_simp
  refine wpAnyG_all (rs := [7]) (by kernel_rfl) (by simp) ?_
  intro i hi
  obtain rfl := List.mem_singleton.1 hi
  clear hi
  refine wpOp_s rfl (by rfl) (fun K hK => ?_)
  refine owp_box_aggS 81 _ rfl (lgC ep (.slice a1 n c1) 0 z4P).toArray rfl ?_
  have H3 : Hid (BxAt (w2.alloc (.cells (lgC ep (.slice a1 n c1) 0 z4P).toArray 81)) w.heap.size [.int .i64 ep, .slice a n cap] 24) := hid (H2.out.1.keep ((Below.refl _ _).alloc (Nat.le_refl _) _))
  go_simp
  refine hK _ _ ⟨fun _ => H3.out, ?_⟩
  clear hK K
  go_simp
  refine wpAnyG_take (i := 8) (v := ?v6) rfl (by kernel_rfl) (fun _ _ _ h => h) (Or.inl ⟨by rfl, ?hy6⟩) H3.out ?rest6
  case hy6 => (intro ww _; go_simp; try with_reducible rfl)
  go_simp
  refine wpAnyG_take (i := 9) (v := ?v7) rfl (by kernel_rfl) (fun _ _ _ h => h) (Or.inl ⟨by rfl, ?hy7⟩) H3.out ?rest7
  case hy7 => (intro ww _; go_simp; try with_reducible rfl)
  go_simp
  refine wpAnyG_done (by kernel_rfl) ?_ _
  go_simp
  go_wp2
  go_ret2
  have hn := HL.out.1
  subst hn
  have hbA : Below w2.heap.size w2 (w2.alloc (.cells (lgC ep (.slice a1 l.length c1) 0 z4P).toArray 81)) := (Below.refl _ _).alloc (Nat.le_refl _) _
  refine ⟨w2.heap.size, a1, c1, rfl, ⟨heap_alloc_last w2 _, H2.out.2.1.ints.alloc _, rfl, fun p hp => ?_⟩, H2.out.2.2.size, by simp, fun x hx => ?_, H2.out.2.2.trans (hbA.mono H2.out.2.2.size)⟩
  · have : p = zPl := by simpa [z4P] using hp
    rw [this]; exact zPl_ok
  · have := (H2.out.2.1.far x hx).2.lt
    exact ⟨(H2.out.2.1.far x hx).1, by omega⟩
end Go.Proofs.Ytohhlolmojeomaa

/- Certs. -/
namespace Go.Proofs.Ytohhlolmojeomaa
open Go.RowKit

section
variable {o : Oper} {a : Act} {w : World} {K : Act → World → Prop} {Q : Exit → Act → World → Prop} {ops : Array Oper} {rest : List Oper}
theorem wl_append_at (hgd : o.guard = none) (s x : Operand) (t : TypeId) (ho : o.op = .call { callee := .builtin .append, args := #[s, x], argTypes := #[t, t] })
    (base : Nat) (e : TypeId) (i : TypeInfo) (z : Value) (size bytes : Nat) (ht : Try.prog.underlying t = some (.slice e)) (hi : Try.prog.info? e = some i) (hz : i.zero = some z)
    (hsize : i.size = size) (hby : i.bytes = bytes) (hzs : z.cells.size = size) (hsz : 0 < size)
    (v : Value) (n : Nat) (xs : List Value) (hs : a.eval s = v) (hown : w.ownsRow base e size v n xs)
    (ad : Addr) (m c : Nat) (news : List Value) (hx : a.eval x = .slice (some ad) m c) (hl : news.length = m * size) (hnews : ∀ j u, news[j]? = some u → w.cell? (ad.add j) = some u) (h1 : ∀ u ∈ news, u.oneCell' = true)
    (h63 : n + m ≤ maxLen) (hbytes : (n + m) * bytes ≤ 140737488355328) (hbase : base ≤ w.heap.size)
    (h : ∀ v' w', w'.ownsRow base e size v' (n + m) (xs ++ news) → w.grownBy w' v.ownBlock → (v'.ownBlock = v.ownBlock ∨ v'.ownBlock = some w.heap.size) → wpList Try.prog ops Q rest (a.put o.dst v') w') : wpList Try.prog ops Q (o :: rest) a w :=
  wpList_plain hgd fun _ hK => owp_append_at s x t ho base e i z size bytes ht hi hz hsize hby hzs hsz v n xs hs hown ad m c news hx hl hnews h1 h63 hbytes hbase (fun v' w' h1 h2 h3 => hK _ _ (h v' w' h1 h2 h3))
end
theorem rd_ctS {F : Nat → Prop} {w : World} {y : Ct} {v : Value} (h : Reads F w v (dPairs y.2.2.2)) (q : Nat) (d : Dat) (hd : (dCt y)[q]? = some d) : q < 9 ∧ ∃ u, (ctC y v)[q]? = some u ∧ Reads F w u d := by
  match q, hd with
  | 0, hd => cases hd; exact ⟨by decide, _, rfl, .i _⟩
  | 1, hd => cases hd; exact ⟨by decide, _, rfl, .i _⟩
  | 2, hd => cases hd; exact ⟨by decide, _, rfl, .i _⟩
  | 3, hd => cases hd; exact ⟨by decide, _, rfl, .i _⟩
  | 4, hd => cases hd; exact ⟨by decide, _, rfl, .i _⟩
  | 5, hd => cases hd; exact ⟨by decide, _, rfl, .s _⟩
  | 6, hd => cases hd; exact ⟨by decide, _, rfl, .f _⟩
  | 7, hd => cases hd; exact ⟨by decide, _, rfl, .i _⟩
  | 8, hd => cases hd; exact ⟨by decide, _, rfl, h⟩
  | q + 9, hd => cases hd
/-- A row of certificates that grows. -/
structure CrS (wB w : World) (vl : Value) (G : List (Ct × Value)) : Prop where
  own : w.ownsRow wB.heap.size 46 9 vl G.length (gC G)
  bel : Below wB.heap.size wB w
  rd : ∀ p, p ∈ G → Reads (fun k => wB.heap.size ≤ k ∧ vl.ownBlock ≠ some k) w p.2 (dPairs p.1.2.2.2)
theorem CrS.nil (w : World) : CrS w w (.slice none 0 0) [] := ⟨World.ownsRow_nil _ _ _ _, Below.refl _ _, fun p hp => by cases hp⟩
theorem CrS.keep {wB w w' : World} {vl : Value} {G : List (Ct × Value)} (h : CrS wB w vl G) (hb : Below w.heap.size w w') : CrS wB w' vl G :=
  ⟨ownsRow_keep h.own hb, h.bel.trans (hb.mono h.bel.size), fun p hp => (h.rd p hp).under hb (Nat.le_refl _)⟩
theorem CrS.sl {wB w : World} {vl : Value} {G : List (Ct × Value)} (h : CrS wB w vl G) : ∃ a c, vl = .slice a G.length c := by
  rcases h.own.2 with ⟨hv, h0⟩ | ⟨g, cap, cur, hv, _⟩
  · exact ⟨none, 0, by rw [hv, h0]⟩
  · exact ⟨_, _, hv⟩
theorem CrS.grow {wB w w2 : World} {vl v2 : Value} {G : List (Ct × Value)} (h : CrS wB w vl G) (p : Ct × Value) (hp : Reads (fun k => wB.heap.size ≤ k ∧ vl.ownBlock ≠ some k) w p.2 (dPairs p.1.2.2.2)) (h2 : w2.ownsRow wB.heap.size 46 9 v2 (G.length + 1) (gC G ++ ctC p.1 p.2)) (hg : w.grownBy w2 vl.ownBlock) (ho : v2.ownBlock = vl.ownBlock ∨ v2.ownBlock = some w.heap.size) : CrS wB w2 v2 (G ++ [p]) := by
  refine ⟨?_, ?_, fun x hx => ?_⟩
  · rw [List.length_append, gC, List.flatMap_append]
    simpa [gC, gcF] using h2
  · exact h.bel.grown hg h.bel.size (fun k hk => (h.own.lt k hk).1)
  · have hr : Reads (fun k => wB.heap.size ≤ k ∧ vl.ownBlock ≠ some k) w x.2 (dPairs x.1.2.2.2) := by
      rcases List.mem_append.1 hx with hx | hx
      · exact h.rd x hx
      · rw [List.mem_singleton.1 hx]; exact hp
    refine hr.move hg.size (fun k hk hF => ⟨hg.block k hk (fun e => hF.2 e.symm), hF.1, ?_⟩)
    rcases ho with e | e
    · rw [e]; exact hF.2
    · rw [e]; intro e2; cases e2; exact Nat.lt_irrefl _ hk
theorem CrS.reads {wB w : World} {vl : Value} {G : List (Ct × Value)} (h : CrS wB w vl G) : Reads (fun k => wB.heap.size ≤ k) w vl (dCts (G.map (·.1))) := by
  rcases h.own.2 with ⟨hv, h0⟩ | ⟨g, cap, cur, hv, hB, hh, hr⟩
  · have : G = [] := List.eq_nil_of_length_eq_zero h0
    subst this
    rw [hv]
    exact .nil none 0 9
  · subst hv
    have hcell := fun (j : Nat) (v : Value) (hv : (gC G)[j]? = some v) => h.own.cells (g := g) rfl j v hv
    have hlen : G.length = ((G.map (·.1)).map dCt).length := by simp
    rw [hlen]
    refine .l g 0 cap 9 _ (fun j q => ((gC G)[j * 9 + q]?).getD undef) hB (lt_of_blk hh) (fun j e he => ?_) (fun j e q d he hd => ?_) (fun j e q d he hd => ?_)
    · rw [List.map_map, List.getElem?_map] at he
      cases hp : G[j]? with
      | none => rw [hp] at he; cases he
      | some p => rw [hp] at he; cases he; rfl
    all_goals
      rw [List.map_map, List.getElem?_map] at he
      cases hp : G[j]? with
      | none => rw [hp] at he; cases he
      | some p =>
        rw [hp] at he
        cases he
        obtain ⟨hq, u, hu, hr2⟩ := rd_ctS ((h.rd p (List.mem_of_getElem? hp)).mono (fun k _ hF => hF.1) : Reads (fun k => wB.heap.size ≤ k) w p.2 (dPairs p.1.2.2.2)) q d hd
        have hx : (gC G)[j * 9 + q]? = some u := by rw [gC, row_at gcF_len hp q hq]; exact hu
        first
          | (have := hcell _ _ hx
             rw [Addr.add_lit] at this
             rw [hx]
             simpa [Nat.add_assoc] using this)
          | (rw [hx]; exact hr2)
def crtTo (ps : List Pl) (j : Nat) : List Ct := ((ps.take j).filter fun p => decide (p.ct.1.2.2.2.length ≠ 0)).map fun p => p.ct.1
theorem crtTo_succ {ps : List Pl} {j : Nat} {p : Pl} (h : ps[j]? = some p) : crtTo ps (j + 1) = crtTo ps j ++ (if p.ct.1.2.2.2.length = 0 then [] else [p.ct.1]) := by
  obtain ⟨hl, he⟩ := List.getElem?_eq_some_iff.1 h
  rw [crtTo, crtTo, List.take_succ_eq_append_getElem hl, he, List.filter_append, List.map_append]
  congr 1
  by_cases hz : p.ct.1.2.2.2.length = 0
  · rw [if_pos hz, List.filter_cons_of_neg (by rw [hz]; decide)]; rfl
  · rw [if_neg hz, List.filter_cons_of_pos (by simpa using hz)]; rfl
theorem crtTo_len (ps : List Pl) (j : Nat) : (crtTo ps j).length ≤ j := by
  rw [crtTo, List.length_map]
  exact Nat.le_trans (List.length_filter_le _ _) (by rw [List.length_take]; omega)
theorem place_ct {w2 : World} {b : Nat} {p : Pl} (hp : PlOk p) (h : w2.heap[b]? = some (.cells (plC p).toArray 78 (0, 0))) : w2.rangeAt b 33 (ctC p.ct.1 p.ct.2) := fun q u hq =>
  cell_at h (33 + q) u (plC_ct hp q u hq)
theorem infoCTs : (Try.prog.info? 46).map (fun i => (i.zero, i.size, i.bytes)) = some (some (.agg #[.int .i64 0, .int .i64 0, .int .i64 0, .int .i64 0, .int .i64 0, .string ⟨#[]⟩, .float .f64 0, .int .i64 0, .slice none 0 0]), 9, 96) := by kernel_rfl
theorem cts_step {wr w5 w6 : World} {o : Obj} (h : Below wr.heap.size wr w5) (e : w6 = w5.alloc o) : Below wr.heap.size wr w6 := by
  rw [e]; exact h.alloc h.size _
theorem cts_room {G : List (Ct × Value)} {ps : List Pl} {j : Nat} (h : G.map (·.1) = crtTo ps j) (h2 : (crtTo ps j).length ≤ 4) : G.length + 1 ≤ maxLen ∧ (G.length + 1) * 96 ≤ 140737488355328 := by
  have := congrArg List.length h
  rw [List.length_map] at this
  unfold maxLen
  omega
theorem cts_le {w wr w5 w6 : World} {o : Obj} (h0 : Below w.heap.size w wr) (h : Below wr.heap.size wr w5) (e : w6 = w5.alloc o) : w.heap.size ≤ w6.heap.size := by
  have := h0.size; have := h.size; rw [e]; simp; omega
theorem cts_read {w wr w2 w3 w4 w5 w6 : World} {o : Obj} {lv : Value} {G : List (Ct × Value)} {c : Ct} {a1 : Option Addr} {n c1 : Nat} (h : CrS w wr lv G) (hN : NewT w3.heap.size w4 a1 c.2.2.2) (hlt : w2.heap.size < w3.heap.size ∧ wr.heap.size ≤ w2.heap.size) (h5 : One w2.heap.size w4 w5) (e : w6 = w5.alloc o) (hn : c.2.2.2.length = n) (_hs : wr.heap.size ≤ w3.heap.size) : Reads (fun k => w.heap.size ≤ k ∧ lv.ownBlock ≠ some k) w6 (.slice a1 n c1) (dPairs c.2.2.2) := by
  subst hn
  have hp : PairsIn w6 a1 c.2.2.2 := by
    rcases hN.pairs with k | ⟨gg, off, ha, hg, hc⟩
    · exact .inl k
    · have hf := (hN.far _ ha).1
      simp only at hf
      have hp5 : PairsIn w5 a1 c.2.2.2 := .inr ⟨gg, off, ha, by rw [h5.size]; exact hg, fun j s hj => by
        have h2 := h5.block gg (by omega)
        have := hc j s hj
        simp only [World.cell?, h2] at this ⊢
        exact this⟩
      rw [e]; exact hp5.keep ((Below.refl w5.heap.size w5).alloc (Nat.le_refl _) _) (Nat.le_refl _)
  refine pairs_reads hp (fun x hx _ => ?_)
  have hf := (hN.far x hx).1
  have := h.bel.size
  refine ⟨by omega, fun e2 => ?_⟩
  have := (h.own.lt x.block e2).2
  omega
def CertsPost (w : World) (ps : List Pl) (e : Ending) (w' : World) : Prop := ∃ vl, e = .returned vl ∧ Reads (fun k => w.heap.size ≤ k) w' vl (dCts (crtTo ps 4)) ∧ Below w.heap.size w w'
set_option maxRecDepth 100000 in
set_option maxHeartbeats 3200000 in
theorem scerts_nil (w : World) : Calls Try.prog 10 #[.pointer none] w fun e w' => e = .returned (.slice none 0 0) ∧ w' = w := by
  go_enter Try.func10, Try.ntmps10
  go_wp2_with (go_at_call 33; go_must (refine (snone_nil _).mono ?_); rintro e w1 ⟨rfl, hw1⟩; replace hw1 := hw1.symm; subst hw1)
  go_ret
  exact ⟨rfl, rfl⟩
set_option maxRecDepth 100000 in
set_option maxHeartbeats 3200000 in
theorem scerts_any (N g : Nat) (ep : Int) (am : Option Addr) (cm : Nat) (l : List Int) (v : Int) (ps : List Pl) (hq : ∀ p, p ∈ ps → p.ct.1.2.2.2.length ≤ 16) (w : World) (h : LgM w N g ep am cm l v ps) (hl : 0 < l.length) : Calls Try.prog 10 #[.pointer (some ⟨g, 0, none⟩)] w fun e w' => CertsPost w ps e w' := by
  obtain ⟨iv, hv0, hvz0, hvz1, hvz2⟩ := info_parts infoCTs
  have HN := hid (snone_any g ep am cm l v ps w h.at_ hl)
  have HL := hid h
  have HQ := hid hq
  have HFl : Hid ((ps.flatMap plC).length = 172) := hid (by rw [flat_len43 h.at_.ok, h.at_.four])
  clear h hl hq
  go_enter Try.func10, Try.ntmps10
  go_wp2_with (first
    | (go_at_call 33; go_must (refine HN.out.mono ?_); rintro e w1 ⟨rfl, hw1⟩; replace hw1 := hw1.symm; subst hw1)
    | (refine wl_load_at rfl 79 _ rfl g 3 rfl (ps.flatMap plC) HL.out.at_.places _ Try.underlying79 rfl (by rw [HFl.out]; kernel_rfl) ?_))
  go_loopw [3, 13] (fun lv i wr => ∃ j : Nat, j ≤ 4 ∧ i = .int .i64 (j : Int) ∧ ∃ (x : Value) (G : List (Ct × Value)), x = lv ∧ G.map (·.1) = crtTo ps j ∧ CrS w wr x G) (fun _ i _ => ((4 : Int) - intOf i).toNat)
  case atStart => exact ⟨0, by omega, rfl, _, [], rfl, rfl, CrS.nil w⟩
  case round =>
    obtain ⟨j, hj, rfl, lv, G, rfl, hG, hC⟩ := hrel
    have HC := hid hC
    have HG := hid hG
    have hj0 : (0 : Int) ≤ (j : Int) := Int.natCast_nonneg _
    by_cases hjn : j = 4
    · subst hjn
      clear hj hG hC
      go_wp2
      go_ret
      exact ⟨lv, rfl, by rw [← HG.out]; exact HC.out.reads, HC.out.bel⟩
    · have hj1 : (j : Int) < 4 := by omega
      obtain ⟨p, hp⟩ : ∃ p, ps[j]? = some p := ⟨_, List.getElem?_eq_getElem (by rw [HL.out.at_.four]; omega)⟩
      have hm := List.mem_of_getElem? hp
      have hok := HL.out.at_.ok p hm
      obtain ⟨a, k, hct, hpp, hN⟩ := (HL.out.rd p hm)
      obtain ⟨c, ec⟩ : ∃ c, c = p.ct.1 := ⟨_, rfl⟩
      obtain ⟨n, en⟩ : ∃ n, n = c.2.2.2.length := ⟨_, rfl⟩
      rw [← ec] at hct hpp
      rw [← en] at hct
      have HPl : Hid ((plC p).length = 43 ∧ (plC p).toArray.all (·.oneCell') = true ∧ PlOk p ∧ p.ct.1 = c ∧ p.ct.2 = .slice a n k) := hid ⟨plC_len hok, ctlie_one (HL.out.rd p hm), hok, ec.symm, hct⟩
      have HExt : Hid ((ps.flatMap plC).toArray.extract (((j : Nat) : Int).toNat * 43) (((j : Nat) : Int).toNat * 43 + 43) = (plC p).toArray) := hid (by rw [Int.toNat_natCast]; exact flat_ext HL.out.at_.ok hp)
      have HSu : Hid (crtTo ps (j + 1) = crtTo ps j ++ (if n = 0 then [] else [c])) := hid (by rw [crtTo_succ hp, ← ec, ← en])
      have HPr : Hid (PairsIn w a c.2.2.2 ∧ c.2.2.2.length = n ∧ n ≤ 16 ∧ (crtTo ps j).length ≤ 4) := hid ⟨hpp, en.symm, by rw [en, ec]; exact HQ.out p hm, Nat.le_trans (crtTo_len ps j) hj⟩
      have HJ := hid (And.intro hj hjn)
      have hw2 : IntKind.i64.wrap ((j : Int) + 1) = (j : Int) + 1 := wrap_small _ (by omega) (by omega)
      clear hj hjn hp hm hok hct hpp hN ec en hG hC
      by_cases hn : n = 0
      · have hnz : ¬ ((n : Int) > 0) := by omega
        have hnz2 : ¬ (0 < n) := by omega
        have HGe : Hid (G.map (·.1) = crtTo ps (j + 1)) := hid (by rw [HSu.out, if_pos hn, List.append_nil]; exact HG.out)
        clear hn
        go_wp2_with (first
          | (refine wl_index_agg rfl 79 _ _ rfl _ rfl .i64 (j : Int) rfl 4 78 Try.underlying79 _ Try.underlying78 rfl 43 (by kernel_rfl) hj0 hj1 (plC p).toArray HExt.out ?_)
          | (refine wl_alloc_arr rfl 78 rfl (plC zPl).toArray 43 place_zero ?_)
          | (refine wl_store_blk rfl 78 _ _ rfl wr.heap.size 0 rfl (plC p).toArray rfl (plC zPl) 78 (heap_alloc_last wr _) (by have := HPl.out.1; simp [this, plC_len zPl_ok]) (by rw [show (plC p).toArray.size = 43 from HPl.out.1]; kernel_rfl) HPl.out.2.1 ?_; intro w2 Hz; have H2 : Hid (w2.heap[wr.heap.size]? = some (.cells (plC p).toArray 78 (0, 0)) ∧ Below wr.heap.size wr w2) := hid (stored_place HPl.out.1 Hz.out); clear Hz)
          | (have := H2; refine wl_load_at rfl 46 _ rfl wr.heap.size 33 rfl (ctC c (.slice a n k)) (by have := place_ct HPl.out.2.2.1 H2.out.1; rw [HPl.out.2.2.2.1, HPl.out.2.2.2.2] at this; exact this) _ Try.underlying46 rfl (by kernel_rfl) ?_)
          | (have := H2; refine wl_store_blk rfl 46 _ _ rfl w2.heap.size 0 rfl (ctC c (.slice a n k)).toArray rfl [.int .i64 0, .int .i64 0, .int .i64 0, .int .i64 0, .int .i64 0, .string ⟨#[]⟩, .float .f64 0, .int .i64 0, .slice none 0 0] 46 (heap_alloc_last w2 _) (by simp [ctC]) (by kernel_rfl) (by simp [ctC, Value.oneCell']) ?_; intro w3 Hz; have H3 : Hid (BxAt w3 w2.heap.size (ctC c (.slice a n k)) 46 ∧ Below wr.heap.size wr w3) := hid ⟨Hz.out.1, H2.out.2.trans ((Hz.out.2.below ((Below.refl _ _).alloc (Nat.le_refl _) _) (Nat.le_refl _)).mono H2.out.2.size)⟩; clear Hz; have u8 := H3.out.1.cell 8 _ rfl))
        go_roundw
        case rel => exact ⟨j + 1, by have := HJ.out; omega, by go_num, _, G, rfl, HGe.out, HC.out.keep H3.out.2⟩
        case measure => simp [intOf]; omega
      · have hnz : ((n : Int) > 0) := by omega
        have hnz2 : 0 < n := by omega
        have HGe : Hid (crtTo ps (j + 1) = crtTo ps j ++ [c]) := hid (by rw [HSu.out, if_neg hn])
        clear hn
        go_wp2_with (first
          | (refine wl_index_agg rfl 79 _ _ rfl _ rfl .i64 (j : Int) rfl 4 78 Try.underlying79 _ Try.underlying78 rfl 43 (by kernel_rfl) hj0 hj1 (plC p).toArray HExt.out ?_)
          | (refine wl_alloc_arr rfl 78 rfl (plC zPl).toArray 43 place_zero ?_)
          | (refine wl_store_blk rfl 78 _ _ rfl wr.heap.size 0 rfl (plC p).toArray rfl (plC zPl) 78 (heap_alloc_last wr _) (by have := HPl.out.1; simp [this, plC_len zPl_ok]) (by rw [show (plC p).toArray.size = 43 from HPl.out.1]; kernel_rfl) HPl.out.2.1 ?_; intro w2 Hz; have H2 : Hid (w2.heap[wr.heap.size]? = some (.cells (plC p).toArray 78 (0, 0)) ∧ Below wr.heap.size wr w2) := hid (stored_place HPl.out.1 Hz.out); clear Hz)
          | (have := H2; refine wl_load_at rfl 46 _ rfl wr.heap.size 33 rfl (ctC c (.slice a n k)) (by have := place_ct HPl.out.2.2.1 H2.out.1; rw [HPl.out.2.2.2.1, HPl.out.2.2.2.2] at this; exact this) _ Try.underlying46 rfl (by kernel_rfl) ?_)
          | (have := H2; refine wl_store_blk rfl 46 _ _ rfl w2.heap.size 0 rfl (ctC c (.slice a n k)).toArray rfl [.int .i64 0, .int .i64 0, .int .i64 0, .int .i64 0, .int .i64 0, .string ⟨#[]⟩, .float .f64 0, .int .i64 0, .slice none 0 0] 46 (heap_alloc_last w2 _) (by simp [ctC]) (by kernel_rfl) (by simp [ctC, Value.oneCell']) ?_; intro w3 Hz; have H3 : Hid (BxAt w3 w2.heap.size (ctC c (.slice a n k)) 46 ∧ Below wr.heap.size wr w3) := hid ⟨Hz.out.1, H2.out.2.trans ((Hz.out.2.below ((Below.refl _ _).alloc (Nat.le_refl _) _) (Nat.le_refl _)).mono H2.out.2.size)⟩; clear Hz; have u8 := H3.out.1.cell 8 _ rfl)
          | (go_at_call 34; go_must (refine (cloneSigs_any a n k c.2.2.2 HPr.out.2.1 (by have := HPr.out.2.2.1; omega) _ (HPr.out.1.keep (HC.out.bel.trans (H3.out.2.mono HC.out.bel.size)) (Nat.le_refl _))).mono ?_); rintro e w4 ⟨a1, c1, rfl, hN4, hb4⟩; have H4 : Hid (NewT w3.heap.size w4 a1 c.2.2.2 ∧ BxAt w4 w2.heap.size (ctC c (.slice a n k)) 46 ∧ Below wr.heap.size wr w4 ∧ w2.heap.size < w3.heap.size ∧ wr.heap.size ≤ w2.heap.size) := hid ⟨hN4, H3.out.1.keep hb4, H3.out.2.trans (hb4.mono H3.out.2.size), lt_of_blk H3.out.1, H2.out.2.size⟩; clear hN4 hb4 u8)
          | (have := H4; refine wl_storeV rfl 44 _ _ rfl w2.heap.size 8 rfl (.slice a1 n c1) rfl rfl rfl (ctC c (.slice a n k)) 46 H4.out.2.1 (by simp [ctC]) (by kernel_rfl) ?_; intro w5 Hz; have H5 : Hid (BxAt w5 w2.heap.size [.int .i64 c.1, .int .i64 c.2.1, .int .i64 c.2.2.1.c, .int .i64 c.2.2.1.st, .int .i64 c.2.2.1.k, .string c.2.2.1.key, .float .f64 c.2.2.1.b, .int .i64 c.2.2.1.id, .slice a1 n c1] 46 ∧ Below wr.heap.size wr w5 ∧ One w2.heap.size w4 w5) := hid ⟨Hz.out.1, Hz.out.2.below H4.out.2.2.1 (by have := H4.out.2.2.2; omega), Hz.out.2⟩; clear Hz; have x0 := H5.out.1.cell 0 _ rfl; have x1 := H5.out.1.cell 1 _ rfl; have x2 := H5.out.1.cell 2 _ rfl; have x3 := H5.out.1.cell 3 _ rfl; have x4 := H5.out.1.cell 4 _ rfl; have x5 := H5.out.1.cell 5 _ rfl; have x6 := H5.out.1.cell 6 _ rfl; have x7 := H5.out.1.cell 7 _ rfl; have x8 := H5.out.1.cell 8 _ rfl; obtain ⟨w6, e6⟩ : ∃ w6, w6 = w5.alloc (.cells #[.int .i64 c.1, .int .i64 c.2.1, .int .i64 c.2.2.1.c, .int .i64 c.2.2.1.st, .int .i64 c.2.2.1.k, .string c.2.2.1.key, .float .f64 c.2.2.1.b, .int .i64 c.2.2.1.id, .slice a1 n c1] 46) := ⟨_, rfl⟩; have H6 : Hid (w6 = w5.alloc (.cells #[.int .i64 c.1, .int .i64 c.2.1, .int .i64 c.2.2.1.c, .int .i64 c.2.2.1.st, .int .i64 c.2.2.1.k, .string c.2.2.1.key, .float .f64 c.2.2.1.b, .int .i64 c.2.2.1.id, .slice a1 n c1] 46)) := hid e6; clear e6)
          | (have := H6; rw [← H6.out]; refine wl_append_at rfl _ _ 37 rfl w.heap.size 46 iv (.agg #[.int .i64 0, .int .i64 0, .int .i64 0, .int .i64 0, .int .i64 0, .string ⟨#[]⟩, .float .f64 0, .int .i64 0, .slice none 0 0]) 9 96 Try.underlying37 hv0 hvz0 hvz1 hvz2 rfl (by decide) lv G.length (gC G) rfl (HC.out.keep (cts_step H5.out.2.1 H6.out)).own ⟨w5.heap.size, 0, none⟩ 1 1 (ctC c (.slice a1 n c1)) rfl rfl (by rw [H6.out]; exact World.news_of_block (t := 46) (fr := (0, 0)) (heap_alloc_last w5 _)) (by simp [ctC, Value.oneCell']) (cts_room HG.out HPr.out.2.2.2).1 (cts_room HG.out HPr.out.2.2.2).2 (cts_le HC.out.bel H5.out.2.1 H6.out) (fun v7 w7 hown7 hgrow7 hob7 => ?_); have H7 : Hid (CrS w w7 v7 (G ++ [(c, .slice a1 n c1)])) := hid ((HC.out.keep (cts_step H5.out.2.1 H6.out)).grow (c, .slice a1 n c1) (cts_read HC.out H4.out.1 H4.out.2.2.2 H5.out.2.2 H6.out HPr.out.2.1 H3.out.2.size) hown7 hgrow7 hob7); clear hown7 hgrow7 hob7))
        go_roundw
        case rel => exact ⟨j + 1, by have := HJ.out; omega, by go_num, _, G ++ [(c, .slice a1 n c1)], rfl, by rw [List.map_append, HG.out, HGe.out]; rfl, H7.out⟩
        case measure => simp [intOf]; omega
end Go.Proofs.Ytohhlolmojeomaa
