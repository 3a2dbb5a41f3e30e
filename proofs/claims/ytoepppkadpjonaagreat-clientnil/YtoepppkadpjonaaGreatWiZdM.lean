/- The program's Read: what gives up is taken for bytes that say nothing. -/
import Derived.Test.YtoepppkadpjonaaGreatWiZeM
namespace Go.Proofs.YtoepppkadpjonaaGreat
set_option maxRecDepth 100000
open Go.RowKit
theorem run_assertU (w : World) : Sem.run Tryz.prog (Instr.typeAssert (.iface 189 (.agg #[])) 20 189 true) w = .ok (.tuple #[.agg #[], .bool true]) w := by kernel_rfl
set_option maxHeartbeats 3200000 in
theorem catch_un (n p q : Nat) (L : List Value) (y : Value) (w0 w : World) (hL : L.length = 17) (hp : BxAt w p L 48) (hq : BxAt w q [y] 28) (hpq : p ≠ q) (hb : Below n w0 w) (hpn : n ≤ p) (hqn : n ≤ q) :
   CallsD Tryz.prog 137 #[.pointer (some ⟨p, 0, none⟩), .pointer (some ⟨q, 0, none⟩)] (.panicking [{ v := .iface 189 (.agg #[]), recovered := false }]) w fun e u' w' =>
     e = .returned (.tuple #[]) ∧ u' = .panicking [{ v := .iface 189 (.agg #[]), recovered := true }] ∧ BxAt w' p [.int .i64 0, .int .i64 0, .int .i64 0, .int .i64 0, .int .i64 0, .int .i64 0, .int .i64 0, .string ⟨#[]⟩, .float .f64 0, .int .i64 0, .int .i64 0, .float .f64 0, .string ⟨#[]⟩, .slice none 0 0, .slice none 0 0, .slice none 0 0, .slice none 0 0] 48 ∧ BxAt w' q [.int .i64 5] 28 ∧ Below n w0 w' := by
 match L, hL with
 | [l0, l1, l2, l3, l4, l5, l6, l7, l8, l9, l10, l11, l12, l13, l14, l15, l16], _ =>
 have hta := run_assertU
 have hlp := lt_of_blk hp
 have hlq := lt_of_blk hq
 have hnb : n ≤ w.heap.size := Nat.le_trans hpn (Nat.le_of_lt hlp)
 have H0 : Hid (BxAt (w.alloc (.cells #[] 189)) p [l0, l1, l2, l3, l4, l5, l6, l7, l8, l9, l10, l11, l12, l13, l14, l15, l16] 48 ∧ BxAt (w.alloc (.cells #[] 189)) q [y] 28 ∧ Below n w0 (w.alloc (.cells #[] 189))) := hid ⟨(Below.heap_alloc w _ p hlp).trans hp, (Below.heap_alloc w _ q hlq).trans hq, hb.trans ((Below.refl n w).alloc hnb _)⟩
 have HN := hid (And.intro hpn (And.intro hqn hpq))
 clear hp hq hb hpn hqn hnb hpq
 refine callsD_of_wpS Tryz.func137 rfl fun c₀ cs hu => ?_
 apply wpS_seq
 apply wpS_region
 simp [wpOpsS, go_sem, recoverD, hu, Tryz.ntmps137, Exit.thenS]
 refine wpS_of_wp ?_
 rw [show (#[Value.pointer (some { block := p, off := 0 }), Value.pointer (some { block := q, off := 0 })] ++ ((Array.replicate 15 undef).setIfInBounds 3 (Value.iface 189 (Value.agg #[]))).setIfInBounds 0 (Value.iface 189 (Value.agg #[]))) = #[Value.pointer (some { block := p, off := 0 }), Value.pointer (some { block := q, off := 0 }), Value.iface 189 (Value.agg #[]), undef, undef, Value.iface 189 (Value.agg #[]), undef, undef, undef, undef, undef, undef, undef, undef, undef, undef, undef] from rfl]
 go_wp2_with (first
   | (refine wl_store_blk rfl 48 _ _ rfl p 0 rfl #[.int .i64 0, .int .i64 0, .int .i64 0, .int .i64 0, .int .i64 0, .int .i64 0, .int .i64 0, .string ⟨#[]⟩, .float .f64 0, .int .i64 0, .int .i64 0, .float .f64 0, .string ⟨#[]⟩, .slice none 0 0, .slice none 0 0, .slice none 0 0, .slice none 0 0] rfl [l0, l1, l2, l3, l4, l5, l6, l7, l8, l9, l10, l11, l12, l13, l14, l15, l16] 48 H0.out.1 (by simp) (by kernel_rfl) (by simp [Value.oneCell']) ?_; intro w1 Hz; have H1 : Hid (BxAt w1 p [.int .i64 0, .int .i64 0, .int .i64 0, .int .i64 0, .int .i64 0, .int .i64 0, .int .i64 0, .string ⟨#[]⟩, .float .f64 0, .int .i64 0, .int .i64 0, .float .f64 0, .string ⟨#[]⟩, .slice none 0 0, .slice none 0 0, .slice none 0 0, .slice none 0 0] 48 ∧ BxAt w1 q [y] 28 ∧ Below n w0 w1) := hid ⟨Hz.out.1, H0.out.2.1.one Hz.out.2 (fun e => HN.out.2.2 e.symm), Hz.out.2.below H0.out.2.2 HN.out.1⟩; clear Hz)
   | (refine wl_store1 rfl 28 _ _ rfl q 0 rfl (.int .i64 5) rfl rfl rfl [y] 28 H1.out.2.1 (by simp) (by kernel_rfl) ?_; intro w2 Hz; have H2 : Hid (BxAt w2 p [.int .i64 0, .int .i64 0, .int .i64 0, .int .i64 0, .int .i64 0, .int .i64 0, .int .i64 0, .string ⟨#[]⟩, .float .f64 0, .int .i64 0, .int .i64 0, .float .f64 0, .string ⟨#[]⟩, .slice none 0 0, .slice none 0 0, .slice none 0 0, .slice none 0 0] 48 ∧ BxAt w2 q [.int .i64 5] 28 ∧ Below n w0 w2) := hid ⟨H1.out.1.one Hz.out.2 HN.out.2.2, Hz.out.1, Hz.out.2.below H1.out.2.2 HN.out.2.1⟩; clear Hz))
 simp [bodyPostS, results, Tryz.results137]
 exact H2.out
theorem catch_still (p q : Nat) (w : World) :
   CallsD Tryz.prog 137 #[.pointer (some ⟨p, 0, none⟩), .pointer (some ⟨q, 0, none⟩)] .returning w fun e u' w' => e = .returned (.tuple #[]) ∧ u' = .returning ∧ w' = w := by
 refine callsD_of_wpS Tryz.func137 rfl fun c₀ cs hu => ?_
 apply wpS_seq
 apply wpS_region
 simp [wpOpsS, go_sem, recoverD, hu, Tryz.ntmps137, Exit.thenS]
 refine wpS_of_wp ?_
 rw [show (#[Value.pointer (some { block := p, off := 0 }), Value.pointer (some { block := q, off := 0 })] ++ ((Array.replicate 15 undef).setIfInBounds 3 (Value.nilIface)).setIfInBounds 0 (Value.nilIface)) = #[Value.pointer (some { block := p, off := 0 }), Value.pointer (some { block := q, off := 0 }), Value.nilIface, undef, undef, Value.nilIface, undef, undef, undef, undef, undef, undef, undef, undef, undef, undef, undef] from rfl]
 go_wp2
 cases c₀
 simp_all [bodyPostS, results, Tryz.results137]
def zeroM : Ms := ⟨0, 0, 0, 0, zeroQ, (0, 0), ⟨#[]⟩, [], [], [], []⟩
def rdEr (t : ByteArray) : Int := if 65536 < t.size then 3 else if pWhole t = none then 5 else 0
def rdMs (t : ByteArray) : Ms := if 65536 < t.size then zeroM else (pWhole t).getD zeroM
def RdPost (t : ByteArray) (w : World) (e : Ending) (w' : World) : Prop := (∃ v, e = .returned (.tuple #[v, .int .i64 (rdEr t)]) ∧ vMs (rdMs t) v w w') ∧ Below w.heap.size w w'
theorem zero_v (w w' : World) : vMs zeroM (.agg #[.int .i64 0, .int .i64 0, .int .i64 0, .int .i64 0, .int .i64 0, .int .i64 0, .int .i64 0, .string ⟨#[]⟩, .float .f64 0, .int .i64 0, .int .i64 0, .float .f64 0, .string ⟨#[]⟩, .slice none 0 0, .slice none 0 0, .slice none 0 0, .slice none 0 0]) w w' := ⟨none, 0, none, 0, none, 0, none, 0, rfl, ⟨.nil _ _ _, .nil _ _ _, .nil _ _ _, .nil _ _ _⟩, Nat.le_refl _⟩
structure RfAt (w w1 : World) (L : List Value) (y : Value) : Prop where
 bel : Below w.heap.size w w1
 m : BxAt w1 w.heap.size L 48
 e : BxAt w1 (w.heap.size + 1) [y] 28
theorem rf_begin (w : World) : RfAt w ((w.alloc (.cells #[.int .i64 0, .int .i64 0, .int .i64 0, .int .i64 0, .int .i64 0, .int .i64 0, .int .i64 0, .string ⟨#[]⟩, .float .f64 0, .int .i64 0, .int .i64 0, .float .f64 0, .string ⟨#[]⟩, .slice none 0 0, .slice none 0 0, .slice none 0 0, .slice none 0 0] 48)).alloc (.cells #[.int .i64 0] 28)) [.int .i64 0, .int .i64 0, .int .i64 0, .int .i64 0, .int .i64 0, .int .i64 0, .int .i64 0, .string ⟨#[]⟩, .float .f64 0, .int .i64 0, .int .i64 0, .float .f64 0, .string ⟨#[]⟩, .slice none 0 0, .slice none 0 0, .slice none 0 0, .slice none 0 0] (.int .i64 0) := by
 have h1 : (w.alloc (.cells #[.int .i64 0, .int .i64 0, .int .i64 0, .int .i64 0, .int .i64 0, .int .i64 0, .int .i64 0, .string ⟨#[]⟩, .float .f64 0, .int .i64 0, .int .i64 0, .float .f64 0, .string ⟨#[]⟩, .slice none 0 0, .slice none 0 0, .slice none 0 0, .slice none 0 0] 48)).heap.size = w.heap.size + 1 := by simp
 refine ⟨((Below.refl w.heap.size w).alloc (Nat.le_refl _) _).alloc (by rw [h1]; omega) _, (Below.heap_alloc _ _ _ (by rw [h1]; omega)).trans (heap_alloc_last w _), ?_⟩
 have := heap_alloc_last (w.alloc (.cells #[.int .i64 0, .int .i64 0, .int .i64 0, .int .i64 0, .int .i64 0, .int .i64 0, .int .i64 0, .string ⟨#[]⟩, .float .f64 0, .int .i64 0, .int .i64 0, .float .f64 0, .string ⟨#[]⟩, .slice none 0 0, .slice none 0 0, .slice none 0 0, .slice none 0 0] 48)) (.cells #[.int .i64 0] 28)
 rw [h1] at this
 exact this
set_option maxHeartbeats 3200000 in
theorem iread_long (t : ByteArray) (w : World) (h : 65536 < t.size) : Calls Tryz.prog 86 #[.string t] w (RdPost t w) := by
 have hi : (65536 : Int) < (t.size : Int) := by omega
 have HE : Hid (rdEr t = 3 ∧ rdMs t = zeroM) := hid ⟨by rw [rdEr, if_pos h], by rw [rdMs, if_pos h]⟩
 have H0 := hid (rf_begin w)
 clear h
 go_enter_defers Tryz.func86, Tryz.ntmps86
 go_wp2_with (first
   | (refine wl_store_blk rfl 48 _ _ rfl w.heap.size 0 rfl #[.int .i64 0, .int .i64 0, .int .i64 0, .int .i64 0, .int .i64 0, .int .i64 0, .int .i64 0, .string ⟨#[]⟩, .float .f64 0, .int .i64 0, .int .i64 0, .float .f64 0, .string ⟨#[]⟩, .slice none 0 0, .slice none 0 0, .slice none 0 0, .slice none 0 0] rfl [.int .i64 0, .int .i64 0, .int .i64 0, .int .i64 0, .int .i64 0, .int .i64 0, .int .i64 0, .string ⟨#[]⟩, .float .f64 0, .int .i64 0, .int .i64 0, .float .f64 0, .string ⟨#[]⟩, .slice none 0 0, .slice none 0 0, .slice none 0 0, .slice none 0 0] 48 H0.out.m (by simp) (by kernel_rfl) (by simp [Value.oneCell']) ?_; intro w1 Hz; have H1 : Hid (RfAt w w1 [.int .i64 0, .int .i64 0, .int .i64 0, .int .i64 0, .int .i64 0, .int .i64 0, .int .i64 0, .string ⟨#[]⟩, .float .f64 0, .int .i64 0, .int .i64 0, .float .f64 0, .string ⟨#[]⟩, .slice none 0 0, .slice none 0 0, .slice none 0 0, .slice none 0 0] (.int .i64 0)) := hid ⟨Hz.out.2.below H0.out.bel (Nat.le_refl _), Hz.out.1, H0.out.e.one Hz.out.2 (by omega)⟩; clear Hz)
   | (refine wl_store1 rfl 28 _ _ rfl (w.heap.size + 1) 0 rfl (.int .i64 3) rfl rfl rfl [.int .i64 0] 28 H1.out.e (by simp) (by kernel_rfl) ?_; intro w2 Hz; have H2 : Hid (RfAt w w2 [.int .i64 0, .int .i64 0, .int .i64 0, .int .i64 0, .int .i64 0, .int .i64 0, .int .i64 0, .string ⟨#[]⟩, .float .f64 0, .int .i64 0, .int .i64 0, .float .f64 0, .string ⟨#[]⟩, .slice none 0 0, .slice none 0 0, .slice none 0 0, .slice none 0 0] (.int .i64 3)) := hid ⟨Hz.out.2.below H1.out.bel (by omega), H1.out.m.one Hz.out.2 (by omega), Hz.out.1⟩; clear Hz))
 have x0 := H2.out.m.cell 0 _ rfl; have x1 := H2.out.m.cell 1 _ rfl; have x2 := H2.out.m.cell 2 _ rfl; have x3 := H2.out.m.cell 3 _ rfl; have x4 := H2.out.m.cell 4 _ rfl; have x5 := H2.out.m.cell 5 _ rfl; have x6 := H2.out.m.cell 6 _ rfl; have x7 := H2.out.m.cell 7 _ rfl; have x8 := H2.out.m.cell 8 _ rfl; have x9 := H2.out.m.cell 9 _ rfl; have x10 := H2.out.m.cell 10 _ rfl; have x11 := H2.out.m.cell 11 _ rfl; have x12 := H2.out.m.cell 12 _ rfl; have x13 := H2.out.m.cell 13 _ rfl; have x14 := H2.out.m.cell 14 _ rfl; have x15 := H2.out.m.cell 15 _ rfl; have x16 := H2.out.m.cell 16 _ rfl
 have ce := H2.out.e.cell 0 _ rfl
 refine ⟨.tuple #[.agg #[.int .i64 0, .int .i64 0, .int .i64 0, .int .i64 0, .int .i64 0, .int .i64 0, .int .i64 0, .string ⟨#[]⟩, .float .f64 0, .int .i64 0, .int .i64 0, .float .f64 0, .string ⟨#[]⟩, .slice none 0 0, .slice none 0 0, .slice none 0 0, .slice none 0 0], .int .i64 3], by simp [results, Tryz.results86, go_sem, x0, x1, x2, x3, x4, x5, x6, x7, x8, x9, x10, x11, x12, x13, x14, x15, x16, ce], ⟨_, by rw [HE.out.1], by rw [HE.out.2]; exact zero_v _ _⟩, H2.out.bel⟩
set_option maxHeartbeats 6400000 in
theorem iread_short (t : ByteArray) (w : World) (h : ¬ 65536 < t.size) : Calls Tryz.prog 86 #[.string t] w (RdPost t w) := by
 have hi : ¬ ((65536 : Int) < (t.size : Int)) := by omega
 have HE : Hid (rdEr t = (if pWhole t = none then 5 else 0) ∧ rdMs t = (pWhole t).getD zeroM) := hid ⟨by rw [rdEr, if_neg h], by rw [rdMs, if_neg h]⟩
 have H0 := hid (rf_begin w)
 have hmf : ∀ (fn : Fn) (first cap : Array Value) (w : World), (Instr.makeFunc fn first cap).run Tryz.prog w = .ok (.func fn first cap) w := fun _ _ _ _ => rfl
 clear h
 go_enter_defers Tryz.func86, Tryz.ntmps86
 go_wp2_with fail
 refine (ireadW_any t _).mono ?_
 rintro e w1 ⟨hb, hor⟩
 have H1 : Hid (RfAt w w1 [.int .i64 0, .int .i64 0, .int .i64 0, .int .i64 0, .int .i64 0, .int .i64 0, .int .i64 0, .string ⟨#[]⟩, .float .f64 0, .int .i64 0, .int .i64 0, .float .f64 0, .string ⟨#[]⟩, .slice none 0 0, .slice none 0 0, .slice none 0 0, .slice none 0 0] (.int .i64 0)) := hid ⟨H0.out.bel.trans (hb.mono (by simp; omega)), H0.out.m.keep hb, H0.out.e.keep hb⟩
 rcases hor with ⟨m, v, hp, rfl, ⟨a13, c13, a14, c14, a15, c15, a16, c16, rfl, hL, hrm⟩⟩ | ⟨hp, rfl⟩
 · have HRm := hid hrm
   clear hrm
   have HP : Hid (rdEr t = 0 ∧ rdMs t = m) := hid ⟨by rw [HE.out.1, hp]; rfl, by rw [HE.out.2, hp]; rfl⟩
   have HL : Hid (MsL (fun k => w.heap.size + 2 ≤ k) w1 m (.slice a13 m.nx.length c13) (.slice a14 m.sg.length c14) (.slice a15 m.cg.length c15) (.slice a16 m.ln.length c16)) := hid (hL.mono (fun k _ hk => by have h9 : _ ≤ k := hk; simp at h9; show w.heap.size + 2 ≤ k; omega))
   clear hp hL hb
   go_wp2_with (first
     | (refine wl_store_blk rfl 48 _ _ rfl w.heap.size 0 rfl #[.int .i64 m.k, .int .i64 m.ep, .int .i64 m.v, .int .i64 m.sl, .int .i64 m.rq.c, .int .i64 m.rq.st, .int .i64 m.rq.k, .string m.rq.key, .float .f64 m.rq.b, .int .i64 m.rq.id, .int .i64 m.rs.1, .float .f64 m.rs.2, .string m.tx, .slice a13 m.nx.length c13, .slice a14 m.sg.length c14, .slice a15 m.cg.length c15, .slice a16 m.ln.length c16] rfl [.int .i64 0, .int .i64 0, .int .i64 0, .int .i64 0, .int .i64 0, .int .i64 0, .int .i64 0, .string ⟨#[]⟩, .float .f64 0, .int .i64 0, .int .i64 0, .float .f64 0, .string ⟨#[]⟩, .slice none 0 0, .slice none 0 0, .slice none 0 0, .slice none 0 0] 48 H1.out.m (by simp) (by kernel_rfl) (by simp [Value.oneCell']) ?_; intro w2 Hz; have H2 : Hid (RfAt w w2 [.int .i64 m.k, .int .i64 m.ep, .int .i64 m.v, .int .i64 m.sl, .int .i64 m.rq.c, .int .i64 m.rq.st, .int .i64 m.rq.k, .string m.rq.key, .float .f64 m.rq.b, .int .i64 m.rq.id, .int .i64 m.rs.1, .float .f64 m.rs.2, .string m.tx, .slice a13 m.nx.length c13, .slice a14 m.sg.length c14, .slice a15 m.cg.length c15, .slice a16 m.ln.length c16] (.int .i64 0) ∧ MsL (fun k => w.heap.size + 2 ≤ k) w2 m (.slice a13 m.nx.length c13) (.slice a14 m.sg.length c14) (.slice a15 m.cg.length c15) (.slice a16 m.ln.length c16)) := hid ⟨⟨Hz.out.2.below H1.out.bel (Nat.le_refl _), Hz.out.1, H1.out.e.one Hz.out.2 (by omega)⟩, HL.out.kept Hz.out.2 (by show ¬ w.heap.size + 2 ≤ w.heap.size; omega)⟩; clear Hz)
     | (refine wl_store1 rfl 28 _ _ rfl (w.heap.size + 1) 0 rfl (.int .i64 0) rfl rfl rfl [.int .i64 0] 28 H2.out.1.e (by simp) (by kernel_rfl) ?_; intro w3 Hz; have H3 : Hid (RfAt w w3 [.int .i64 m.k, .int .i64 m.ep, .int .i64 m.v, .int .i64 m.sl, .int .i64 m.rq.c, .int .i64 m.rq.st, .int .i64 m.rq.k, .string m.rq.key, .float .f64 m.rq.b, .int .i64 m.rq.id, .int .i64 m.rs.1, .float .f64 m.rs.2, .string m.tx, .slice a13 m.nx.length c13, .slice a14 m.sg.length c14, .slice a15 m.cg.length c15, .slice a16 m.ln.length c16] (.int .i64 0) ∧ MsL (fun k => w.heap.size + 2 ≤ k) w3 m (.slice a13 m.nx.length c13) (.slice a14 m.sg.length c14) (.slice a15 m.cg.length c15) (.slice a16 m.ln.length c16)) := hid ⟨⟨Hz.out.2.below H2.out.1.bel (by omega), H2.out.1.m.one Hz.out.2 (by omega), Hz.out.1⟩, H2.out.2.kept Hz.out.2 (by show ¬ w.heap.size + 2 ≤ w.heap.size + 1; omega)⟩; clear Hz))
   refine leaves_cons (f := 137) (args := #[Value.pointer (some { block := w.heap.size, off := 0 }), Value.pointer (some { block := w.heap.size + 1, off := 0 })]) (by simp) (by simp [go_sem]) ?_
   refine (catch_still _ _ _).mono ?_
   rintro e u' w'' ⟨rfl, rfl, rfl⟩
   have x0 := H3.out.1.m.cell 0 _ rfl; have x1 := H3.out.1.m.cell 1 _ rfl; have x2 := H3.out.1.m.cell 2 _ rfl; have x3 := H3.out.1.m.cell 3 _ rfl; have x4 := H3.out.1.m.cell 4 _ rfl; have x5 := H3.out.1.m.cell 5 _ rfl; have x6 := H3.out.1.m.cell 6 _ rfl; have x7 := H3.out.1.m.cell 7 _ rfl; have x8 := H3.out.1.m.cell 8 _ rfl; have x9 := H3.out.1.m.cell 9 _ rfl; have x10 := H3.out.1.m.cell 10 _ rfl; have x11 := H3.out.1.m.cell 11 _ rfl; have x12 := H3.out.1.m.cell 12 _ rfl; have x13 := H3.out.1.m.cell 13 _ rfl; have x14 := H3.out.1.m.cell 14 _ rfl; have x15 := H3.out.1.m.cell 15 _ rfl; have x16 := H3.out.1.m.cell 16 _ rfl
   have ce := H3.out.1.e.cell 0 _ rfl
   refine ⟨.tuple #[.agg #[.int .i64 m.k, .int .i64 m.ep, .int .i64 m.v, .int .i64 m.sl, .int .i64 m.rq.c, .int .i64 m.rq.st, .int .i64 m.rq.k, .string m.rq.key, .float .f64 m.rq.b, .int .i64 m.rq.id, .int .i64 m.rs.1, .float .f64 m.rs.2, .string m.tx, .slice a13 m.nx.length c13, .slice a14 m.sg.length c14, .slice a15 m.cg.length c15, .slice a16 m.ln.length c16], .int .i64 0], by simp [results, Tryz.results86, go_sem, x0, x1, x2, x3, x4, x5, x6, x7, x8, x9, x10, x11, x12, x13, x14, x15, x16, ce], ⟨_, by rw [HP.out.1], ?_⟩, H3.out.1.bel⟩
   rw [HP.out.2]
   exact ⟨a13, c13, a14, c14, a15, c15, a16, c16, rfl, H3.out.2.mono (fun k _ hk => by have h9 : w.heap.size + 2 ≤ k := hk; show w.heap.size ≤ k; omega), HRm.out⟩
 · have HP : Hid (rdEr t = 5 ∧ rdMs t = zeroM) := hid ⟨by rw [HE.out.1, hp]; rfl, by rw [HE.out.2, hp]; rfl⟩
   clear hp hb
   go_wp2
   refine leaves_cons (f := 137) (args := #[Value.pointer (some { block := w.heap.size, off := 0 }), Value.pointer (some { block := w.heap.size + 1, off := 0 })]) (by simp) (by simp [go_sem]) ?_
   refine (catch_un w.heap.size w.heap.size (w.heap.size + 1) _ _ w w1 rfl H1.out.m H1.out.e (by omega) H1.out.bel (Nat.le_refl _) (by omega)).mono ?_
   rintro e u' w'' ⟨rfl, rfl, hm, hq, hbl⟩
   have x0 := hm.cell 0 _ rfl; have x1 := hm.cell 1 _ rfl; have x2 := hm.cell 2 _ rfl; have x3 := hm.cell 3 _ rfl; have x4 := hm.cell 4 _ rfl; have x5 := hm.cell 5 _ rfl; have x6 := hm.cell 6 _ rfl; have x7 := hm.cell 7 _ rfl; have x8 := hm.cell 8 _ rfl; have x9 := hm.cell 9 _ rfl; have x10 := hm.cell 10 _ rfl; have x11 := hm.cell 11 _ rfl; have x12 := hm.cell 12 _ rfl; have x13 := hm.cell 13 _ rfl; have x14 := hm.cell 14 _ rfl; have x15 := hm.cell 15 _ rfl; have x16 := hm.cell 16 _ rfl
   have ce := hq.cell 0 _ rfl
   show Leaves _ _ _ _ _ _ _
   refine ⟨.tuple #[.agg #[.int .i64 0, .int .i64 0, .int .i64 0, .int .i64 0, .int .i64 0, .int .i64 0, .int .i64 0, .string ⟨#[]⟩, .float .f64 0, .int .i64 0, .int .i64 0, .float .f64 0, .string ⟨#[]⟩, .slice none 0 0, .slice none 0 0, .slice none 0 0, .slice none 0 0], .int .i64 5], by simp [results, Tryz.results86, go_sem, x0, x1, x2, x3, x4, x5, x6, x7, x8, x9, x10, x11, x12, x13, x14, x15, x16, ce], ⟨_, by rw [HP.out.1], by rw [HP.out.2]; exact zero_v _ _⟩, hbl⟩
theorem iread_any (t : ByteArray) (w : World) : Calls Tryz.prog 86 #[.string t] w (RdPost t w) := by
 by_cases h : 65536 < t.size
 · exact iread_long t w h
 · exact iread_short t w h
end Go.Proofs.YtoepppkadpjonaaGreat
