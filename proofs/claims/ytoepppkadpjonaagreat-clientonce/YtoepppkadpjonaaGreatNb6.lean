/- Texts laid together: ApA KlA LdA MwT TxA DsD DsE PwA WsA WiT WiMs CoR ChA GtA OpD OpS. -/
import Derived.Test.YtoepppkadpjonaaGreatNb5
import Derived.Maps.AppendAt
import Derived.Test.YtoepppkadpjonaaGreatNb4
import Derived.Deep.MidRow
import Derived.Test.YtoepppkadpjonaaGreatNb1
import Derived.Test.YtoepppkadpjonaaGreatNb2
import Derived.BigQuiet
import Derived.WalkLawsBesides
import Derived.Test.YtoepppkadpjonaaGreatNb3
import Derived.OwnWalk
namespace Go.Proofs.YtoepppkadpjonaaGreat
section
open Go.RowKit
section
variable {o : Oper} {a : Act} {w : World} {K : Act → World → Prop} {Q : Exit → Act → World → Prop} {ops : Array Oper} {rest : List Oper}
theorem owp_append_at (s x : Operand) (t : TypeId) (ho : o.op = .call { callee := .builtin .append, args := #[s, x], argTypes := #[t, t] })
   (base : Nat) (e : TypeId) (i : TypeInfo) (z : Value) (size bytes : Nat) (ht : Tryz.prog.underlying t = some (.slice e)) (hi : Tryz.prog.info? e = some i) (hz : i.zero = some z)
   (hsize : i.size = size) (hby : i.bytes = bytes) (hzs : z.cells.size = size) (hsz : 0 < size)
   (v : Value) (n : Nat) (xs : List Value) (hs : a.eval s = v) (hown : w.ownsRow base e size v n xs)
   (ad : Addr) (m c : Nat) (news : List Value) (hx : a.eval x = .slice (some ad) m c) (hl : news.length = m * size) (hnews : ∀ j u, news[j]? = some u → w.cell? (ad.add j) = some u) (h1 : ∀ u ∈ news, u.oneCell' = true)
   (h63 : n + m ≤ maxLen) (hbytes : (n + m) * bytes ≤ 140737488355328) (hbase : base ≤ w.heap.size)
   (h : ∀ v' w', w'.ownsRow base e size v' (n + m) (xs ++ news) → w.grownBy w' v.ownBlock → (v'.ownBlock = v.ownBlock ∨ v'.ownBlock = some w.heap.size) → K (a.put o.dst v') w') : o.wp Tryz.prog a w K Q := by
 obtain ⟨v', w', hr, h2, h3, h4, h5⟩ := run_append_own_at (P := Tryz.prog) w base t o.type e i z size bytes ht hi hz hsize hby hzs hsz v n xs hown ad m c news hl hnews h1 h63 hbytes hbase
 unfold Oper.wp execOp
 simp only [ho, resolve, invoke, builtin, Sem.run_bind, Sem.run_pure, Result.andThen_ok, List.map_toArray, List.map_cons, List.map_nil, hs, hx, hr]
 exact h v' w' h2 h3 h5
end
end
section
open Go.RowKit
abbrev Wd := Int × Int × ByteArray
abbrev An := Rq × (Int × Nat)
structure Clt where
 id : Int
 st : Int
 op : Rq
 cm : List Wd
 ac : List An
def wdV (x : Wd) : List Value := [.int .i64 x.1, .int .i64 x.2.1, .string x.2.2]
def wdC (l : List Wd) : List Value := l.flatMap wdV
def anV (x : An) : List Value := [.int .i64 x.1.c, .int .i64 x.1.st, .int .i64 x.1.k, .string x.1.key, .float .f64 x.1.b, .int .i64 x.1.id, .int .i64 x.2.1, .float .f64 x.2.2]
def anC (l : List An) : List Value := l.flatMap anV
def clC (c : Clt) (vt vc va : Value) : List Value := [.int .i64 c.id, vt, .int .i64 c.st, .int .i64 c.op.c, .int .i64 c.op.st, .int .i64 c.op.k, .string c.op.key, .float .f64 c.op.b, .int .i64 c.op.id, vc, va]
structure ClM (O : Nat → Prop) (N : Nat) (w : World) (g : Nat) (vt vc va : Value) (fm : List Int) (ls : List Lk) (c : Clt) : Prop where
 blk : BxAt w g (clC c vt vc va) 94
 tr : TrAt O w vt fm ls
 cm : w.ownsRow N 148 3 vc c.cm.length (wdC c.cm)
 ac : w.ownsRow N 118 8 va c.ac.length (anC c.ac)
 gN : N ≤ g
 oN : ∀ k, O k → N ≤ k
 le : N ≤ w.heap.size
 gO : ¬ O g
 cg : vc.ownBlock ≠ some g
 ag : va.ownBlock ≠ some g
 cO : ∀ k, vc.ownBlock = some k → ¬ O k
 aO : ∀ k, va.ownBlock = some k → ¬ O k
 ca : ∀ k, vc.ownBlock = some k → va.ownBlock ≠ some k
def Cfp (O : Nat → Prop) (g : Nat) (vc va : Value) (k : Nat) : Prop := k = g ∨ O k ∨ vc.ownBlock = some k ∨ va.ownBlock = some k
def ClAt (N : Nat) (P : Nat → Prop) (w : World) (v : Value) (fm : List Int) (ls : List Lk) (c : Clt) : Prop :=
 ∃ O g vt vc va, v = .pointer (some ⟨g, 0, none⟩) ∧ ClM O N w g vt vc va fm ls c ∧ ∀ k, P k ↔ Cfp O g vc va k
theorem own_rowW {w w' : World} {B : Nat} {T : TypeId} {sz n : Nat} {v : Value} {xs : List Value} (h : w.ownsRow B T sz v n xs) (hk : ∀ g, v.ownBlock = some g → w'.heap[g]? = w.heap[g]?) : w'.ownsRow B T sz v n xs := by
 obtain ⟨h1, h2⟩ := h
 refine ⟨h1, ?_⟩
 rcases h2 with h2 | ⟨g, cap, cur, hv, hB, hh, hr⟩
 · exact .inl h2
 · exact .inr ⟨g, cap, cur, hv, hB, (hk g (by rw [hv]; rfl)).trans hh, hr⟩
section
variable {O P : Nat → Prop} {N g : Nat} {w w' : World} {v vt vc va : Value} {fm : List Int} {ls : List Lk} {c : Clt}
theorem ClM.keep (h : ClM O N w g vt vc va fm ls c) (hb : Below w.heap.size w w') : ClM O N w' g vt vc va fm ls c :=
 ⟨h.blk.keep hb, h.tr.keep hb.size (fun k hk _ => hb.block k hk), own_rowW h.cm (fun k hk => hb.block k (h.cm.lt k hk).2), own_rowW h.ac (fun k hk => hb.block k (h.ac.lt k hk).2), h.gN, h.oN, Nat.le_trans h.le hb.size, h.gO, h.cg, h.ag, h.cO, h.aO, h.ca⟩
theorem ClAt.keep (h : ClAt N P w v fm ls c) (hb : Below w.heap.size w w') : ClAt N P w' v fm ls c := by
 obtain ⟨O, g, vt, vc, va, hv, hM, hP⟩ := h
 exact ⟨O, g, vt, vc, va, hv, hM.keep hb, hP⟩
theorem ClM.lt (h : ClM O N w g vt vc va fm ls c) (k : Nat) (hk : Cfp O g vc va k) : k < w.heap.size := by
 rcases hk with rfl | hq | hq | hq
 · exact lt_of_blk h.blk
 · exact h.tr.lt k hq
 · exact (h.cm.lt k hq).2
 · exact (h.ac.lt k hq).2
theorem ClAt.lt (h : ClAt N P w v fm ls c) (k : Nat) (hk : P k) : k < w.heap.size := by
 obtain ⟨O, g, vt, vc, va, hv, hM, hP⟩ := h
 exact hM.lt k ((hP k).1 hk)
theorem ClAt.low (h : ClAt N P w v fm ls c) (k : Nat) (hk : P k) : N ≤ k := by
 obtain ⟨O, g, vt, vc, va, hv, hM, hP⟩ := h
 rcases (hP k).1 hk with rfl | hq | hq | hq
 · exact hM.gN
 · exact hM.oN k hq
 · exact (hM.cm.lt k hq).1
 · exact (hM.ac.lt k hq).1
theorem ClM.put (h : ClM O N w g vt vc va fm ls c) (c' : Clt) (hc : c'.cm = c.cm) (ha : c'.ac = c.ac) (ho : One g w w') (hb : BxAt w' g (clC c' vt vc va) 94) : ClM O N w' g vt vc va fm ls c' :=
 ⟨hb, h.tr.keep (Nat.le_of_eq ho.size.symm) (fun k _ hk => ho.block k (fun e => h.gO (e ▸ hk))), by rw [hc]; exact own_rowW h.cm (fun k hk => ho.block k (fun e => h.cg (e ▸ hk))), by rw [ha]; exact own_rowW h.ac (fun k hk => ho.block k (fun e => h.ag (e ▸ hk))), h.gN, h.oN, by rw [ho.size]; exact h.le, h.gO, h.cg, h.ag, h.cO, h.aO, h.ca⟩
end
theorem wdC_at (l : List Wd) (j : Nat) (x : Wd) (hx : l[j]? = some x) (q : Nat) (u : Value) (hu : (wdV x)[q]? = some u) : (wdC l)[j * 3 + q]? = some u := by
 induction l generalizing j with
 | nil => cases hx
 | cons y r ih =>
   rw [wdC, List.flatMap_cons]
   cases j with
   | zero => cases hx; rw [Nat.zero_mul, Nat.zero_add, List.getElem?_append_left (List.getElem?_eq_some_iff.1 hu).1]; exact hu
   | succ j => rw [List.getElem?_append_right (by simp [wdV]; omega), show (j + 1) * 3 + q - (wdV y).length = j * 3 + q by simp [wdV]; omega]; exact ih j hx
theorem anC_at (l : List An) (j : Nat) (x : An) (hx : l[j]? = some x) (q : Nat) (u : Value) (hu : (anV x)[q]? = some u) : (anC l)[j * 8 + q]? = some u := by
 induction l generalizing j with
 | nil => cases hx
 | cons y r ih =>
   rw [anC, List.flatMap_cons]
   cases j with
   | zero => cases hx; rw [Nat.zero_mul, Nat.zero_add, List.getElem?_append_left (List.getElem?_eq_some_iff.1 hu).1]; exact hu
   | succ j => rw [List.getElem?_append_right (by simp [anV]; omega), show (j + 1) * 8 + q - (anV y).length = j * 8 + q by simp [anV]; omega]; exact ih j hx
theorem row_open {w : World} {N n sz : Nat} {T : TypeId} {v : Value} {xs : List Value} (h : w.ownsRow N T sz v n xs) : ∃ ad cap, v = .slice ad n cap ∧ n ≤ cap ∧ (0 < n → ∃ r, ad = some ⟨r, 0, none⟩ ∧ r < w.heap.size ∧ ∀ (j : Nat) (u : Value), xs[j]? = some u → w.cell? ⟨r, j, none⟩ = some u) := by
 rcases h.2 with ⟨hv, h0⟩ | ⟨g, cap, cur, hv, hB, hh, hnc, hr⟩
 · exact ⟨none, 0, by rw [hv, h0], by omega, fun hn => by omega⟩
 · refine ⟨_, cap, hv, hnc, fun hn => ⟨g, rfl, lt_of_blk hh, fun j u hu => ?_⟩⟩
   subst hv
   have := h.cells (g := g) rfl j u hu
   rw [Addr.add_lit, Nat.zero_add] at this
   exact this
end
section
open Go.RowKit
section
variable {o : Oper} {a : Act} {w : World} {K : Act → World → Prop} {Q : Exit → Act → World → Prop} {ops : Array Oper} {rest : List Oper}
theorem owp_ldat (T : TypeId) (p : Operand) (ho : o.op = .load T p) (b off : Nat) (hp : a.eval p = .pointer (some ⟨b, off, none⟩)) (L : List Value) (hL : ∀ (j : Nat) (v : Value), L[j]? = some v → w.cell? ⟨b, off + j, none⟩ = some v) (d : TypeDesc) (hu : Tryz.prog.underlying T = some d) (hd : d.isRow = true) (hi : (Tryz.prog.info? T).map (·.size) = some L.length) (A : Value) (hA : A = .agg L.toArray)
   (h : K (a.put o.dst A) w) : o.wp Tryz.prog a w K Q :=
 wp_load_mid T p ho b off hp L d hL hu hd hi (by rw [← hA]; exact h)
theorem wl_ldat (hw : Region.wanted o (yielded ops a.tmps) = true) (T : TypeId) (p : Operand) (ho : o.op = .load T p) (b off : Nat) (hp : a.eval p = .pointer (some ⟨b, off, none⟩)) (L : List Value) (hL : ∀ (j : Nat) (v : Value), L[j]? = some v → w.cell? ⟨b, off + j, none⟩ = some v) (d : TypeDesc) (hu : Tryz.prog.underlying T = some d) (hd : d.isRow = true) (hi : (Tryz.prog.info? T).map (·.size) = some L.length) (A : Value) (hA : A = .agg L.toArray)
   (h : wpList Tryz.prog ops Q rest (a.put o.dst A) w) : wpList Tryz.prog ops Q (o :: rest) a w := by
 refine wpList_step fun K hK => ?_
 rw [if_pos hw]
 exact owp_ldat T p ho b off hp L hL d hu hd hi A hA (hK _ _ h)
theorem wl_loadB (hw : Region.wanted o (yielded ops a.tmps) = true) (T : TypeId) (p : Operand) (ho : o.op = .load T p) (b off : Nat) (hp : a.eval p = .pointer (some ⟨b, off, none⟩)) (L : List Value) (TB : TypeId) (hL : w.heap[b]? = some (.cells L.toArray TB (0, 0))) (d : TypeDesc) (hu : Tryz.prog.underlying T = some d) (hd : d.isRow = true) (hi : (Tryz.prog.info? T).map (·.size) = some L.length) (A : Value) (hA : A = .agg L.toArray)
   (h0 : off = 0) (h : wpList Tryz.prog ops Q rest (a.put o.dst A) w) : wpList Tryz.prog ops Q (o :: rest) a w := by
 subst h0
 exact wl_ldat hw T p ho b 0 hp L (fun j v hv => by rw [Nat.zero_add]; exact cell_at hL j v hv) d hu hd hi A hA h
theorem ret_cell1 {f : Func} {a : Act} {w : World} {Q : Ending → World → Prop} {s : Nat} {t : TypeId} {ad : Addr} {v : Value} (hr : f.results = #[.cell s t]) (hs : a.tmps.getD s undef = .pointer (some ad)) (hl : (loadVar t ad).run Tryz.prog w = .ok v w) (hd : a.defers = [])
   (h : Q (.returned v) w) : bodyPost Tryz.prog f Q .ret a w := by
 refine bodyPost_ret (v := v) ?_ hd h
 have h1 : a.tmps.getD s undef = .pointer (some ad) := hs
 simp [results, hr, -Array.getD_eq_getD_getElem?, h1, asAddr, hl]
end
theorem load_whole {w : World} {b : Nat} {L : List Value} {T TB : TypeId} (h : w.heap[b]? = some (.cells L.toArray TB (0, 0))) (d : TypeDesc) (hu : Tryz.prog.underlying T = some d) (hd : d.isRow = true) (hi : (Tryz.prog.info? T).map (·.size) = some L.length) : (loadVar T ⟨b, 0, none⟩).run Tryz.prog w = .ok (.agg L.toArray) w :=
 run_loadVar_mid (P := Tryz.prog) w b 0 T L d (fun j v hv => by rw [Nat.zero_add]; exact cell_at h j v hv) hu hd hi
theorem two_new (w : World) (o1 o2 : Obj) : ∃ W, (w.alloc o1).alloc o2 = W ∧ Below w.heap.size w W ∧ W.heap[w.heap.size]? = some o1 ∧ W.heap[w.heap.size + 1]? = some o2 ∧ W.heap.size = w.heap.size + 2 := by
 have h1 : Below w.heap.size w (w.alloc o1) := (Below.refl _ _).alloc (Nat.le_refl _) _
 have h2 : Below (w.alloc o1).heap.size (w.alloc o1) ((w.alloc o1).alloc o2) := (Below.refl _ _).alloc (Nat.le_refl _) _
 refine ⟨_, rfl, h1.trans (h2.mono h1.size), (h2.block _ (by simp)).trans (heap_alloc_last w o1), ?_, by simp⟩
 have := heap_alloc_last (w.alloc o1) o2
 rw [show (w.alloc o1).heap.size = w.heap.size + 1 by simp] at this
 exact this
end
section
open Go.RowKit
end
section
open Go.RowKit
theorem wLx (lim : Int) (l : List UInt8) (s n : Nat) (hn : n < 256 ^ s) (hl : (l.length : Int) + s ≤ lim) : wL lim l 0 s (n : Int) = l ++ be s n ∧ wE lim l 0 s (n : Int) = 0 := by
 have h : adm lim l.length 0 (inR s (n : Int)) s = 0 := by
   have hi : inR s (n : Int) = true := by
     unfold inR
     exact decide_eq_true ⟨Int.natCast_nonneg _, by exact_mod_cast hn⟩
   rw [hi]
   unfold adm
   rw [if_pos rfl, if_pos rfl, if_neg (by omega)]
 exact ⟨by rw [wL, if_pos h, Int.toNat_natCast], by rw [wE, h]⟩
theorem xLx (lim : Int) (l : List UInt8) (s : ByteArray) (hs : s.size ≤ 65535) (hl : (l.length : Int) + (2 + s.size) ≤ lim) : xL lim l 0 s = l ++ (be 2 s.size ++ s.data.toList) ∧ xE lim l 0 s = 0 := by
 have h : xE lim l 0 s = 0 := by
   unfold xE adm
   rw [if_pos rfl, decide_eq_true hs, if_pos rfl, if_neg (by omega)]
 exact ⟨by rw [xL, if_pos h], h⟩
theorem bLx (lim : Int) (l : List UInt8) (n : Nat) (hl : (l.length : Int) + 8 ≤ lim) : bL lim l 0 n = l ++ be 8 n ∧ bE lim l 0 = 0 := by
 have h : bE lim l 0 = 0 := by
   unfold bE adm
   rw [if_pos rfl, if_pos rfl, if_neg (by omega)]
 exact ⟨by rw [bL, if_pos h], h⟩
end
section
open Go.RowKit
end
section
open Go.RowKit
theorem rq_st {w : World} {b : Nat} {r : Rq} (h : RqAt w b r) (v : Int) : RqAt (w.setCell ⟨b, 1, none⟩ (.int .i64 v)) b { r with st := v } := (blk_set h 1 _).trans (by simp)
theorem rq_k {w : World} {b : Nat} {r : Rq} (h : RqAt w b r) (v : Int) : RqAt (w.setCell ⟨b, 2, none⟩ (.int .i64 v)) b { r with k := v } := (blk_set h 2 _).trans (by simp)
theorem rq_key {w : World} {b : Nat} {r : Rq} (h : RqAt w b r) (v : ByteArray) : RqAt (w.setCell ⟨b, 3, none⟩ (.string v)) b { r with key := v } := (blk_set h 3 _).trans (by simp)
theorem rq_b {w : World} {b : Nat} {r : Rq} (h : RqAt w b r) (v : Nat) : RqAt (w.setCell ⟨b, 4, none⟩ (.float .f64 v)) b { r with b := v } := (blk_set h 4 _).trans (by simp)
theorem rq_id {w : World} {b : Nat} {r : Rq} (h : RqAt w b r) (v : Int) : RqAt (w.setCell ⟨b, 5, none⟩ (.int .i64 v)) b { r with id := v } := (blk_set h 5 _).trans (by simp)
theorem load_rq (w : World) (b : Nat) (r : Rq) (h : RqAt w b r) : (loadVar 41 ⟨b, 0, none⟩).run Tryz.prog w = .ok (.agg #[.int .i64 r.c, .int .i64 r.st, .int .i64 r.k, .string r.key, .float .f64 r.b, .int .i64 r.id]) w := by
 obtain ⟨⟨z0, z1⟩, z2, z3, z4, z5⟩ := h.cells
 clear h
 go_simp
end
section
open Go.RowKit
def PwAt (lim : Int) (c : Nat) (w0 w : World) (l : List UInt8) : Prop := (∃ v, WrAt w c v lim l 0) ∧ Below c w0 w
theorem pwnew (lim : Int) (h0 : 0 ≤ lim) (w : World) : Calls Tryz.prog 117 #[.int .i64 lim] w fun e w' => e = .returned (.pointer (some ⟨w.heap.size, 0, none⟩)) ∧ PwAt lim w.heap.size w w' [] := by
 refine (new_any lim w).mono ?_
 rintro e w' ⟨rfl, rfl⟩
 rw [show max lim 0 = lim by omega]
 exact ⟨rfl, ⟨_, ⟨heap_alloc_last w _, ⟨rfl, .inl ⟨rfl, rfl⟩⟩⟩⟩, (Below.refl _ _).alloc (Nat.le_refl _) _⟩
theorem pwbyte (lim : Int) (h0 : 0 ≤ lim) (h1 : lim ≤ 4294967296) (c : Nat) (w0 w : World) (l : List UInt8) (n : Nat) (hn : n < 256) (hl : (l.length : Int) + 1 ≤ lim) (h : PwAt lim c w0 w l) :
   Calls Tryz.prog 118 #[.pointer (some ⟨c, 0, none⟩), .int .i64 (n : Int)] w fun e w' => e = .returned (.tuple #[]) ∧ PwAt lim c w0 w' (l ++ be 1 n) := by
 obtain ⟨⟨v, hv⟩, hb⟩ := h
 refine (wbyte_any c v lim l 0 n w hv h0 (by omega) (by omega) (by omega)).mono ?_
 rintro e w' ⟨rfl, v', h', hk, _⟩
 rw [(wLx lim l 1 n (by omega) hl).1, (wLx lim l 1 n (by omega) hl).2] at h'
 exact ⟨rfl, ⟨v', h'⟩, hb.trans (hk.below (Nat.le_of_lt hv.lt) (Nat.le_refl _) (fun g hg => by have := (hv.own.lt g hg).1; omega))⟩
theorem pwlong (lim : Int) (h0 : 0 ≤ lim) (h1 : lim ≤ 4294967296) (c : Nat) (w0 w : World) (l : List UInt8) (n : Nat) (hn : n < 4294967296) (hl : (l.length : Int) + 4 ≤ lim) (h : PwAt lim c w0 w l) :
   Calls Tryz.prog 119 #[.pointer (some ⟨c, 0, none⟩), .int .i64 (n : Int)] w fun e w' => e = .returned (.tuple #[]) ∧ PwAt lim c w0 w' (l ++ be 4 n) := by
 obtain ⟨⟨v, hv⟩, hb⟩ := h
 refine (wlong_any c v lim l 0 n w hv h0 (by omega) (by omega) (by omega)).mono ?_
 rintro e w' ⟨rfl, v', h', hk, _⟩
 rw [(wLx lim l 4 n (by omega) hl).1, (wLx lim l 4 n (by omega) hl).2] at h'
 exact ⟨rfl, ⟨v', h'⟩, hb.trans (hk.below (Nat.le_of_lt hv.lt) (Nat.le_refl _) (fun g hg => by have := (hv.own.lt g hg).1; omega))⟩
theorem pwtext (lim : Int) (h0 : 0 ≤ lim) (h1 : lim ≤ 4294967296) (c : Nat) (w0 w : World) (l : List UInt8) (s : ByteArray) (hs : s.size ≤ 65535) (hl : (l.length : Int) + (2 + s.size) ≤ lim) (h : PwAt lim c w0 w l) :
   Calls Tryz.prog 120 #[.pointer (some ⟨c, 0, none⟩), .string s] w fun e w' => e = .returned (.tuple #[]) ∧ PwAt lim c w0 w' (l ++ (be 2 s.size ++ s.data.toList)) := by
 obtain ⟨⟨v, hv⟩, hb⟩ := h
 refine (wtext_any c v lim l 0 s w hv h0 (by omega) (by omega) (by omega) (fun _ => by omega)).mono ?_
 rintro e w' ⟨rfl, v', h', hk, _⟩
 rw [(xLx lim l s hs hl).1, (xLx lim l s hs hl).2] at h'
 exact ⟨rfl, ⟨v', h'⟩, hb.trans (hk.below (Nat.le_of_lt hv.lt) (Nat.le_refl _) (fun g hg => by have := (hv.own.lt g hg).1; omega))⟩
theorem pwbits (lim : Int) (h0 : 0 ≤ lim) (h1 : lim ≤ 4294967296) (c : Nat) (w0 w : World) (l : List UInt8) (n : Nat) (hn : n < 18446744073709551616) (hl : (l.length : Int) + 8 ≤ lim) (h : PwAt lim c w0 w l) :
   Calls Tryz.prog 121 #[.pointer (some ⟨c, 0, none⟩), .int .u64 (n : Int)] w fun e w' => e = .returned (.tuple #[]) ∧ PwAt lim c w0 w' (l ++ be 8 n) := by
 obtain ⟨⟨v, hv⟩, hb⟩ := h
 refine (wbits_any c v lim l 0 n w hv h0 (by omega) (by omega) hn).mono ?_
 rintro e w' ⟨rfl, v', h', hk, _⟩
 rw [(bLx lim l n hl).1, (bLx lim l n hl).2] at h'
 exact ⟨rfl, ⟨v', h'⟩, hb.trans (hk.below (Nat.le_of_lt hv.lt) (Nat.le_refl _) (fun g hg => by have := (hv.own.lt g hg).1; omega))⟩
theorem pwdone (lim : Int) (c : Nat) (w0 w : World) (l : List UInt8) (h : PwAt lim c w0 w l) :
   Calls Tryz.prog 123 #[.pointer (some ⟨c, 0, none⟩)] w fun e w' => e = .returned (.tuple #[.string ⟨l.toArray⟩, .int .i64 0]) ∧ Below c w0 w' := by
 obtain ⟨⟨v, hv⟩, hb⟩ := h
 refine (done_ok c v lim l w hv).mono ?_
 rintro e w' ⟨rfl, rfl⟩
 exact ⟨rfl, hb⟩
end
section
open Go.RowKit
theorem text_neS {x y : ByteArray} (h : ¬ x = y) : (x.toList == y.toList) = false := by
 rw [beq_eq_false_iff_ne, ByteArray.toList_eq, ByteArray.toList_eq]
 intro he
 exact h (ByteArray.ext (Array.toList_inj.1 he))
end
section
set_option maxRecDepth 100000
open Go.RowKit
theorem RdAt.alloc {w : World} {b : Nat} {s : ByteArray} {sh : Bool} (h : RdAt w b s sh) (o : Obj) : RdAt (w.alloc o) b s sh := (Below.heap_alloc w o b (lt_of_blk h)).trans h
theorem ineed_yes (w : World) : Calls Tryz.prog 178 #[.bool true] w fun e w' => e = .returned (.tuple #[]) ∧ w' = w := by
 go_enter Tryz.func178, Tryz.ntmps178
 go_wp2
 go_end0
 exact ⟨rfl, rfl⟩
theorem ineed_no (w : World) : Calls Tryz.prog 178 #[.bool false] w fun e w' => e = .panicked [{ v := .iface 189 (.agg #[]), recovered := false }] ∧ w' = w := by
 go_enter Tryz.func178, Tryz.ntmps178
 go_wp2
 exact ⟨rfl, rfl, rfl⟩
set_option maxHeartbeats 800000 in
theorem ineedRead_yes (b : Nat) (s : ByteArray) (w : World) (h : RdAt w b s false) :
   Calls Tryz.prog 200 #[.agg #[.pointer (some ⟨b, 0, none⟩)]] w fun e w' => e = .returned (.tuple #[]) ∧ Kept b none w w' ∧ w'.heap[b]? = w.heap[b]? := by
 have HE : Hid (∀ o, Calls Tryz.prog 130 #[.pointer (some ⟨b, 0, none⟩)] (w.alloc o) fun e w' => e = .returned (.int .i64 (endOf s false)) ∧ w' = w.alloc o) := hid (fun o => end_any b s false _ (h.alloc o))
 have hq : (endOf s false != 2) = true := by unfold endOf; by_cases h0 : 0 < s.size <;> simp [h0]
 have hlt := h.lt
 generalize endOf s false = E at HE hq
 clear h
 go_enter Tryz.func200, Tryz.ntmps200
 go_wp2_with (first
   | (go_at_call 130; refine (HE.out _).mono ?_; rintro e w1 ⟨rfl, hw⟩; replace hw := hw.symm; subst hw)
   | (go_at_call 178; refine (ineed_yes _).mono ?_; rintro e w1 ⟨rfl, hw⟩; replace hw := hw.symm; subst hw))
 go_end0
 exact ⟨rfl, (Kept.refl _ _ _).alloc _, Below.heap_alloc _ _ _ hlt⟩
set_option maxHeartbeats 800000 in
theorem ineedRead_no (b : Nat) (s : ByteArray) (w : World) (h : RdAt w b s true) :
   Calls Tryz.prog 200 #[.agg #[.pointer (some ⟨b, 0, none⟩)]] w fun e w' => e = .panicked [{ v := .iface 189 (.agg #[]), recovered := false }] ∧ Kept b none w w' := by
 have HE : Hid (∀ o, Calls Tryz.prog 130 #[.pointer (some ⟨b, 0, none⟩)] (w.alloc o) fun e w' => e = .returned (.int .i64 2) ∧ w' = w.alloc o) := hid (fun o => end_any b s true _ (h.alloc o))
 clear h
 go_enter Tryz.func200, Tryz.ntmps200
 go_wp2_with (first
   | (go_at_call 130; refine (HE.out _).mono ?_; rintro e w1 ⟨rfl, hw⟩; replace hw := hw.symm; subst hw)
   | (go_at_call 178; refine (ineed_no _).mono ?_; rintro e w1 ⟨rfl, hw⟩; replace hw := hw.symm; subst hw))
 exact ⟨rfl, rfl, (Kept.refl _ _ _).alloc _⟩
set_option maxHeartbeats 1600000 in
theorem ipbyte_yes (b : Nat) (s : ByteArray) (w : World) (h : RdAt w b s false) (hs : rB s false 1 = false) :
   Calls Tryz.prog 189 #[.agg #[.pointer (some ⟨b, 0, none⟩)]] w fun e w' => e = .returned (.int .i64 (rN s false 1)) ∧ RdAt w' b (rS s false 1) false ∧ Kept b none w w' := by
 have hlt := h.lt
 have HC : Hid (Calls Tryz.prog 125 #[.pointer (some ⟨b, 0, none⟩)] (w.alloc (.cells #[.pointer (some ⟨b, 0, none⟩)] 222)) fun e w' => e = .returned (.int .i64 (rN s false 1)) ∧ RdAt w' b (rS s false 1) false ∧ Kept b none (w.alloc (.cells #[.pointer (some ⟨b, 0, none⟩)] 222)) w') := hid (by
   have := rbyte_any b s false _ (h.alloc (.cells #[.pointer (some ⟨b, 0, none⟩)] 222))
   rw [hs] at this
   exact this)
 clear h hs
 go_enter Tryz.func189, Tryz.ntmps189
 go_wp2_with (first
   | (go_at_call 125; refine HC.out.mono ?_; rintro e w1 ⟨rfl, hr, hk⟩; have H1 := hid (And.intro hr hk); have y0 : w1.cell? ⟨w.heap.size, 0, none⟩ = some (.pointer (some ⟨b, 0, none⟩)) := (World.cell?_of_block (a := ⟨w.heap.size, 0, none⟩) (hk.block w.heap.size (by simp) (Nat.ne_of_gt hlt) (by simp))).trans (by simp [go_sem]); clear hr hk)
   | (go_at_call 200; refine (ineedRead_yes b _ _ H1.out.1).mono ?_; rintro e w2 ⟨rfl, hk⟩; have H2 := hid hk; clear hk))
 go_ret
 exact ⟨rfl, (H2.out.2).trans H1.out.1, (((Kept.refl b none w).alloc _).trans H1.out.2 (.inl rfl)).trans H2.out.1 (.inl rfl)⟩
set_option maxHeartbeats 1600000 in
theorem ipbyte_no (b : Nat) (s : ByteArray) (w : World) (h : RdAt w b s false) (hs : rB s false 1 = true) :
   Calls Tryz.prog 189 #[.agg #[.pointer (some ⟨b, 0, none⟩)]] w fun e w' => e = .panicked [{ v := .iface 189 (.agg #[]), recovered := false }] ∧ Kept b none w w' := by
 have hlt := h.lt
 have HC : Hid (Calls Tryz.prog 125 #[.pointer (some ⟨b, 0, none⟩)] (w.alloc (.cells #[.pointer (some ⟨b, 0, none⟩)] 222)) fun e w' => e = .returned (.int .i64 (rN s false 1)) ∧ RdAt w' b (rS s false 1) true ∧ Kept b none (w.alloc (.cells #[.pointer (some ⟨b, 0, none⟩)] 222)) w') := hid (by
   have := rbyte_any b s false _ (h.alloc (.cells #[.pointer (some ⟨b, 0, none⟩)] 222))
   rw [hs] at this
   exact this)
 clear h hs
 go_enter Tryz.func189, Tryz.ntmps189
 go_wp2_with (first
   | (go_at_call 125; refine HC.out.mono ?_; rintro e w1 ⟨rfl, hr, hk⟩; have H1 := hid (And.intro hr hk); have y0 : w1.cell? ⟨w.heap.size, 0, none⟩ = some (.pointer (some ⟨b, 0, none⟩)) := (World.cell?_of_block (a := ⟨w.heap.size, 0, none⟩) (hk.block w.heap.size (by simp) (Nat.ne_of_gt hlt) (by simp))).trans (by simp [go_sem]); clear hr hk)
   | (go_at_call 200; refine (ineedRead_no b _ _ H1.out.1).mono ?_; rintro e w2 ⟨rfl, hk⟩; have H2 := hid hk; clear hk))
 exact ⟨rfl, rfl, (((Kept.refl b none w).alloc _).trans H1.out.2 (.inl rfl)).trans H2.out (.inl rfl)⟩
set_option maxHeartbeats 1600000 in
theorem ipword_yes (b : Nat) (s : ByteArray) (w : World) (h : RdAt w b s false) (hs : rB s false 2 = false) :
   Calls Tryz.prog 190 #[.agg #[.pointer (some ⟨b, 0, none⟩)]] w fun e w' => e = .returned (.int .i64 (rN s false 2)) ∧ RdAt w' b (rS s false 2) false ∧ Kept b none w w' := by
 have hlt := h.lt
 have HC : Hid (Calls Tryz.prog 201 #[.pointer (some ⟨b, 0, none⟩)] (w.alloc (.cells #[.pointer (some ⟨b, 0, none⟩)] 222)) fun e w' => e = .returned (.int .i64 (rN s false 2)) ∧ RdAt w' b (rS s false 2) false ∧ Kept b none (w.alloc (.cells #[.pointer (some ⟨b, 0, none⟩)] 222)) w') := hid (by
   have := rword_any b s false _ (h.alloc (.cells #[.pointer (some ⟨b, 0, none⟩)] 222))
   rw [hs] at this
   exact this)
 clear h hs
 go_enter Tryz.func190, Tryz.ntmps190
 go_wp2_with (first
   | (go_at_call 201; refine HC.out.mono ?_; rintro e w1 ⟨rfl, hr, hk⟩; have H1 := hid (And.intro hr hk); have y0 : w1.cell? ⟨w.heap.size, 0, none⟩ = some (.pointer (some ⟨b, 0, none⟩)) := (World.cell?_of_block (a := ⟨w.heap.size, 0, none⟩) (hk.block w.heap.size (by simp) (Nat.ne_of_gt hlt) (by simp))).trans (by simp [go_sem]); clear hr hk)
   | (go_at_call 200; refine (ineedRead_yes b _ _ H1.out.1).mono ?_; rintro e w2 ⟨rfl, hk⟩; have H2 := hid hk; clear hk))
 go_ret
 exact ⟨rfl, (H2.out.2).trans H1.out.1, (((Kept.refl b none w).alloc _).trans H1.out.2 (.inl rfl)).trans H2.out.1 (.inl rfl)⟩
set_option maxHeartbeats 1600000 in
theorem ipword_no (b : Nat) (s : ByteArray) (w : World) (h : RdAt w b s false) (hs : rB s false 2 = true) :
   Calls Tryz.prog 190 #[.agg #[.pointer (some ⟨b, 0, none⟩)]] w fun e w' => e = .panicked [{ v := .iface 189 (.agg #[]), recovered := false }] ∧ Kept b none w w' := by
 have hlt := h.lt
 have HC : Hid (Calls Tryz.prog 201 #[.pointer (some ⟨b, 0, none⟩)] (w.alloc (.cells #[.pointer (some ⟨b, 0, none⟩)] 222)) fun e w' => e = .returned (.int .i64 (rN s false 2)) ∧ RdAt w' b (rS s false 2) true ∧ Kept b none (w.alloc (.cells #[.pointer (some ⟨b, 0, none⟩)] 222)) w') := hid (by
   have := rword_any b s false _ (h.alloc (.cells #[.pointer (some ⟨b, 0, none⟩)] 222))
   rw [hs] at this
   exact this)
 clear h hs
 go_enter Tryz.func190, Tryz.ntmps190
 go_wp2_with (first
   | (go_at_call 201; refine HC.out.mono ?_; rintro e w1 ⟨rfl, hr, hk⟩; have H1 := hid (And.intro hr hk); have y0 : w1.cell? ⟨w.heap.size, 0, none⟩ = some (.pointer (some ⟨b, 0, none⟩)) := (World.cell?_of_block (a := ⟨w.heap.size, 0, none⟩) (hk.block w.heap.size (by simp) (Nat.ne_of_gt hlt) (by simp))).trans (by simp [go_sem]); clear hr hk)
   | (go_at_call 200; refine (ineedRead_no b _ _ H1.out.1).mono ?_; rintro e w2 ⟨rfl, hk⟩; have H2 := hid hk; clear hk))
 exact ⟨rfl, rfl, (((Kept.refl b none w).alloc _).trans H1.out.2 (.inl rfl)).trans H2.out (.inl rfl)⟩
set_option maxHeartbeats 1600000 in
theorem iptext_yes (b : Nat) (s : ByteArray) (w : World) (h : RdAt w b s false) (hs : tB s false = false) :
   Calls Tryz.prog 193 #[.agg #[.pointer (some ⟨b, 0, none⟩)]] w fun e w' => e = .returned (.string (tT s false)) ∧ RdAt w' b (tS s false) false ∧ Kept b none w w' := by
 have hlt := h.lt
 have HC : Hid (Calls Tryz.prog 127 #[.pointer (some ⟨b, 0, none⟩)] (w.alloc (.cells #[.pointer (some ⟨b, 0, none⟩)] 222)) fun e w' => e = .returned (.string (tT s false)) ∧ RdAt w' b (tS s false) false ∧ Kept b none (w.alloc (.cells #[.pointer (some ⟨b, 0, none⟩)] 222)) w') := hid (by
   have := rtext_any b s false _ (h.alloc (.cells #[.pointer (some ⟨b, 0, none⟩)] 222))
   rw [hs] at this
   exact this)
 clear h hs
 go_enter Tryz.func193, Tryz.ntmps193
 go_wp2_with (first
   | (go_at_call 127; refine HC.out.mono ?_; rintro e w1 ⟨rfl, hr, hk⟩; have H1 := hid (And.intro hr hk); have y0 : w1.cell? ⟨w.heap.size, 0, none⟩ = some (.pointer (some ⟨b, 0, none⟩)) := (World.cell?_of_block (a := ⟨w.heap.size, 0, none⟩) (hk.block w.heap.size (by simp) (Nat.ne_of_gt hlt) (by simp))).trans (by simp [go_sem]); clear hr hk)
   | (go_at_call 200; refine (ineedRead_yes b _ _ H1.out.1).mono ?_; rintro e w2 ⟨rfl, hk⟩; have H2 := hid hk; clear hk))
 go_ret
 exact ⟨rfl, (H2.out.2).trans H1.out.1, (((Kept.refl b none w).alloc _).trans H1.out.2 (.inl rfl)).trans H2.out.1 (.inl rfl)⟩
set_option maxHeartbeats 1600000 in
theorem iptext_no (b : Nat) (s : ByteArray) (w : World) (h : RdAt w b s false) (hs : tB s false = true) :
   Calls Tryz.prog 193 #[.agg #[.pointer (some ⟨b, 0, none⟩)]] w fun e w' => e = .panicked [{ v := .iface 189 (.agg #[]), recovered := false }] ∧ Kept b none w w' := by
 have hlt := h.lt
 have HC : Hid (Calls Tryz.prog 127 #[.pointer (some ⟨b, 0, none⟩)] (w.alloc (.cells #[.pointer (some ⟨b, 0, none⟩)] 222)) fun e w' => e = .returned (.string (tT s false)) ∧ RdAt w' b (tS s false) true ∧ Kept b none (w.alloc (.cells #[.pointer (some ⟨b, 0, none⟩)] 222)) w') := hid (by
   have := rtext_any b s false _ (h.alloc (.cells #[.pointer (some ⟨b, 0, none⟩)] 222))
   rw [hs] at this
   exact this)
 clear h hs
 go_enter Tryz.func193, Tryz.ntmps193
 go_wp2_with (first
   | (go_at_call 127; refine HC.out.mono ?_; rintro e w1 ⟨rfl, hr, hk⟩; have H1 := hid (And.intro hr hk); have y0 : w1.cell? ⟨w.heap.size, 0, none⟩ = some (.pointer (some ⟨b, 0, none⟩)) := (World.cell?_of_block (a := ⟨w.heap.size, 0, none⟩) (hk.block w.heap.size (by simp) (Nat.ne_of_gt hlt) (by simp))).trans (by simp [go_sem]); clear hr hk)
   | (go_at_call 200; refine (ineedRead_no b _ _ H1.out.1).mono ?_; rintro e w2 ⟨rfl, hk⟩; have H2 := hid hk; clear hk))
 exact ⟨rfl, rfl, (((Kept.refl b none w).alloc _).trans H1.out.2 (.inl rfl)).trans H2.out (.inl rfl)⟩
end
section
open Go.RowKit
def msA (m : Ms) (a13 a14 a15 a16 : Option Addr) (c13 c14 c15 c16 : Nat) : List Value := [.int .i64 m.k, .int .i64 m.ep, .int .i64 m.v, .int .i64 m.sl, .int .i64 m.rq.c, .int .i64 m.rq.st, .int .i64 m.rq.k, .string m.rq.key, .float .f64 m.rq.b, .int .i64 m.rq.id, .int .i64 m.rs.1, .float .f64 m.rs.2, .string m.tx, .slice a13 m.nx.length c13, .slice a14 m.sg.length c14, .slice a15 m.cg.length c15, .slice a16 m.ln.length c16]
theorem msA_at {w : World} {b : Nat} {T : TypeId} {m : Ms} {a13 a14 a15 a16 : Option Addr} {c13 c14 c15 c16 : Nat} (h : BxAt w b (msA m a13 a14 a15 a16 c13 c14 c15 c16) T) :
   w.cell? ⟨b, 0, none⟩ = some (.int .i64 m.k) ∧ w.cell? ⟨b, 1, none⟩ = some (.int .i64 m.ep) ∧ w.cell? ⟨b, 2, none⟩ = some (.int .i64 m.v) ∧ w.cell? ⟨b, 3, none⟩ = some (.int .i64 m.sl) ∧ w.cell? ⟨b, 4, none⟩ = some (.int .i64 m.rq.c) ∧ w.cell? ⟨b, 5, none⟩ = some (.int .i64 m.rq.st) ∧ w.cell? ⟨b, 6, none⟩ = some (.int .i64 m.rq.k) ∧ w.cell? ⟨b, 7, none⟩ = some (.string m.rq.key) ∧ w.cell? ⟨b, 8, none⟩ = some (.float .f64 m.rq.b) ∧ w.cell? ⟨b, 9, none⟩ = some (.int .i64 m.rq.id) ∧ w.cell? ⟨b, 10, none⟩ = some (.int .i64 m.rs.1) ∧ w.cell? ⟨b, 11, none⟩ = some (.float .f64 m.rs.2) ∧ w.cell? ⟨b, 12, none⟩ = some (.string m.tx) ∧ w.cell? ⟨b, 13, none⟩ = some (.slice a13 m.nx.length c13) ∧ w.cell? ⟨b, 14, none⟩ = some (.slice a14 m.sg.length c14) ∧ w.cell? ⟨b, 15, none⟩ = some (.slice a15 m.cg.length c15) ∧ w.cell? ⟨b, 16, none⟩ = some (.slice a16 m.ln.length c16) := ⟨h.cell 0 _ rfl, h.cell 1 _ rfl, h.cell 2 _ rfl, h.cell 3 _ rfl, h.cell 4 _ rfl, h.cell 5 _ rfl, h.cell 6 _ rfl, h.cell 7 _ rfl, h.cell 8 _ rfl, h.cell 9 _ rfl, h.cell 10 _ rfl, h.cell 11 _ rfl, h.cell 12 _ rfl, h.cell 13 _ rfl, h.cell 14 _ rfl, h.cell 15 _ rfl, h.cell 16 _ rfl⟩
theorem msA_all {W : World} {b : Nat} {T : TypeId} {m : Ms} {a13 a14 a15 a16 : Option Addr} {c13 c14 c15 c16 : Nat} (h : BxAt W b (msA m a13 a14 a15 a16 c13 c14 c15 c16) T) :
   (∀ x : Cls W, x.1.cell? ⟨b, 0, none⟩ = some (.int .i64 m.k)) ∧ (∀ x : Cls W, x.1.cell? ⟨b, 1, none⟩ = some (.int .i64 m.ep)) ∧ (∀ x : Cls W, x.1.cell? ⟨b, 2, none⟩ = some (.int .i64 m.v)) ∧ (∀ x : Cls W, x.1.cell? ⟨b, 3, none⟩ = some (.int .i64 m.sl)) ∧ (∀ x : Cls W, x.1.cell? ⟨b, 4, none⟩ = some (.int .i64 m.rq.c)) ∧ (∀ x : Cls W, x.1.cell? ⟨b, 5, none⟩ = some (.int .i64 m.rq.st)) ∧ (∀ x : Cls W, x.1.cell? ⟨b, 6, none⟩ = some (.int .i64 m.rq.k)) ∧ (∀ x : Cls W, x.1.cell? ⟨b, 7, none⟩ = some (.string m.rq.key)) ∧ (∀ x : Cls W, x.1.cell? ⟨b, 8, none⟩ = some (.float .f64 m.rq.b)) ∧ (∀ x : Cls W, x.1.cell? ⟨b, 9, none⟩ = some (.int .i64 m.rq.id)) ∧ (∀ x : Cls W, x.1.cell? ⟨b, 10, none⟩ = some (.int .i64 m.rs.1)) ∧ (∀ x : Cls W, x.1.cell? ⟨b, 11, none⟩ = some (.float .f64 m.rs.2)) ∧ (∀ x : Cls W, x.1.cell? ⟨b, 12, none⟩ = some (.string m.tx)) ∧ (∀ x : Cls W, x.1.cell? ⟨b, 13, none⟩ = some (.slice a13 m.nx.length c13)) ∧ (∀ x : Cls W, x.1.cell? ⟨b, 14, none⟩ = some (.slice a14 m.sg.length c14)) ∧ (∀ x : Cls W, x.1.cell? ⟨b, 15, none⟩ = some (.slice a15 m.cg.length c15)) ∧ (∀ x : Cls W, x.1.cell? ⟨b, 16, none⟩ = some (.slice a16 m.ln.length c16)) := ⟨fun x => (h.keep x.2).cell 0 _ rfl, fun x => (h.keep x.2).cell 1 _ rfl, fun x => (h.keep x.2).cell 2 _ rfl, fun x => (h.keep x.2).cell 3 _ rfl, fun x => (h.keep x.2).cell 4 _ rfl, fun x => (h.keep x.2).cell 5 _ rfl, fun x => (h.keep x.2).cell 6 _ rfl, fun x => (h.keep x.2).cell 7 _ rfl, fun x => (h.keep x.2).cell 8 _ rfl, fun x => (h.keep x.2).cell 9 _ rfl, fun x => (h.keep x.2).cell 10 _ rfl, fun x => (h.keep x.2).cell 11 _ rfl, fun x => (h.keep x.2).cell 12 _ rfl, fun x => (h.keep x.2).cell 13 _ rfl, fun x => (h.keep x.2).cell 14 _ rfl, fun x => (h.keep x.2).cell 15 _ rfl, fun x => (h.keep x.2).cell 16 _ rfl⟩
theorem msA_new (m : Ms) (a13 a14 a15 a16 : Option Addr) (c13 c14 c15 c16 : Nat) (T : TypeId) (w : World) :
   ∃ wa, w.alloc (.cells (msA m a13 a14 a15 a16 c13 c14 c15 c16).toArray T) = wa ∧ Below w.heap.size w wa ∧ BxAt wa w.heap.size (msA m a13 a14 a15 a16 c13 c14 c15 c16) T := ⟨_, rfl, (Below.refl w.heap.size w).alloc (Nat.le_refl _) _, heap_alloc_last w _⟩
theorem bx_next {wa u u2 : World} {b : Nat} {L : List Value} {T : TypeId} (h : BxAt u b L T ∧ Below wa.heap.size wa u) (hb : Below u.heap.size u u2) : BxAt u2 b L T ∧ Below wa.heap.size wa u2 := ⟨h.1.keep hb, h.2.trans (hb.mono h.2.size)⟩
def Tst (W : World) (f : FuncId) (args : Array Value) (v : Value) : Prop := ∀ u : World, Below W.heap.size W u → Calls Tryz.prog f args u fun e w' => e = .returned v ∧ Below u.heap.size u w'
theorem Tst.up {W wa : World} {f : FuncId} {args : Array Value} {v : Value} (h : Tst W f args v) (hw : Below W.heap.size W wa) : Tst wa f args v := fun u hu => h u (hw.trans (hu.mono hw.size))
end
section
set_option maxRecDepth 100000
open Go.RowKit
structure RpSt (w0 w : World) (s : ByteArray) (sh : Bool) : Prop where
 res : w.heap[w0.heap.size]? = some (.cells #[.int .i64 0, .slice none 0 0] 24 (0, 0))
 rd : RdAt w (w0.heap.size + 1) s sh
 bel : Below w0.heap.size w0 w
theorem RpSt.kept {w0 w w' : World} {s s' : ByteArray} {sh sh' : Bool} (h : RpSt w0 w s sh) (k : Kept (w0.heap.size + 1) none w w') (hr : RdAt w' (w0.heap.size + 1) s' sh') : RpSt w0 w' s' sh' :=
 ⟨(k.block _ (lt_of_blk h.res) (by omega) (by simp)).trans h.res, hr, h.bel.trans (k.below (Nat.le_of_lt (lt_of_blk h.res)) (by omega) (fun g hg => by cases hg))⟩
theorem RpSt.keep {w0 w w' : World} {s : ByteArray} {sh : Bool} (h : RpSt w0 w s sh) (hb : Below w.heap.size w w') : RpSt w0 w' s sh :=
 ⟨(hb.block _ (lt_of_blk h.res)).trans h.res, (hb.block _ (lt_of_blk h.rd)).trans h.rd, h.bel.trans (hb.mono h.bel.size)⟩
structure RmSt (w0 w : World) (s : ByteArray) (sh : Bool) (b : Nat) (l : List Int) : Prop where
 st : RpSt w0 w s sh
 row : w.heap[b]? = some (.cells (iC l).toArray 3 (0, 0))
 hb : w0.heap.size + 2 ≤ b
theorem RmSt.kept {w0 w w' : World} {s s' : ByteArray} {sh sh' : Bool} {b : Nat} {l : List Int} (h : RmSt w0 w s sh b l) (k : Kept (w0.heap.size + 1) none w w') (hr : RdAt w' (w0.heap.size + 1) s' sh') : RmSt w0 w' s' sh' b l :=
 ⟨h.st.kept k hr, (k.block _ (lt_of_blk h.row) (by have := h.hb; omega) (by simp)).trans h.row, h.hb⟩
theorem RmSt.keep {w0 w w' : World} {s : ByteArray} {sh : Bool} {b : Nat} {l : List Int} (h : RmSt w0 w s sh b l) (hb : Below w.heap.size w w') : RmSt w0 w' s sh b l :=
 ⟨h.st.keep hb, (hb.block _ (lt_of_blk h.row)).trans h.row, h.hb⟩
theorem RmSt.put {w0 w : World} {s : ByteArray} {sh : Bool} {b : Nat} {l l2 : List Int} (h : RmSt w0 w s sh b l) (j : Nat) (y : Int) (hl : l.set j y = l2) : RmSt w0 (w.setCell ⟨b, j, none⟩ (.int .i64 y)) s sh b l2 := by
 have hb := h.hb
 refine ⟨⟨(Below.heap_setCell _ _ _ _ (show w0.heap.size ≠ b by omega)).trans h.st.res, (Below.heap_setCell _ _ _ _ (show w0.heap.size + 1 ≠ b by omega)).trans h.st.rd, h.st.bel.setCell (p := ⟨b, j, none⟩) (by show w0.heap.size ≤ b; omega) _⟩, (blk_set h.row j _).trans ?_, h.hb⟩
 subst hl
 rw [List.setIfInBounds_toArray]
 simp [iC, List.map_set]
def rdP (s : ByteArray) (sh : Bool) (N j : Nat) : List Int := rdL s sh j ++ List.replicate (N - j) 0
theorem rdP_set (s : ByteArray) (sh : Bool) (N j : Nat) (hj : j < N) : (rdP s sh N j).set j (rN (rdS s sh j).1 (rdS s sh j).2 1 : Int) = rdP s sh N (j + 1) := by
 obtain ⟨m, hm⟩ : ∃ m, N - j = m + 1 := ⟨N - j - 1, by omega⟩
 rw [rdP, rdP, hm, show N - (j + 1) = m by omega, List.set_append_right _ _ (by rw [rdL_len]; omega), rdL_len, Nat.sub_self, List.replicate_succ, List.set_cons_zero, rdL, List.append_assoc]
 rfl
theorem rdP_all (s : ByteArray) (sh : Bool) (N : Nat) : rdP s sh N N = rdL s sh N := by rw [rdP, Nat.sub_self, List.replicate_zero, List.append_nil]
theorem rdP_len (s : ByteArray) (sh : Bool) (N j : Nat) (hj : j ≤ N) : (rdP s sh N j).length = N := by rw [rdP, List.length_append, rdL_len, List.length_replicate]; omega
set_option maxHeartbeats 3200000 in
theorem cread_any (t : ByteArray) (w : World) :
   Calls Tryz.prog 208 #[.string t] w fun e w' => ∃ v, e = .returned (.tuple #[.agg #[.int .i64 (readZ t), v], .int .i64 (readE t)]) ∧ OwnedI w.heap.size w w' v (readM t) := by
 have H0 : Hid (RpSt w ((w.alloc (.cells #[.int .i64 0, .slice none 0 0] 24)).alloc (.cells #[.string t, .bool false] 207)) t false) := hid
   ⟨(Below.heap_alloc _ _ _ (by simp)).trans (heap_alloc_last w _), snd_alloc w _ _, ((Below.refl _ _).alloc (Nat.le_refl _) _).alloc (by simp) _⟩
 have hN1 : cN t < 256 := by have := rN_lt (cS2 t).1 (cS2 t).2 1; simpa [cN] using this
 obtain ⟨N, eN⟩ : ∃ N, N = cN t := ⟨_, rfl⟩
 obtain ⟨E, eE⟩ : ∃ E, E = cE t := ⟨_, rfl⟩
 obtain ⟨H, eH⟩ : ∃ H, H = cH t := ⟨_, rfl⟩
 have hN2 : (N : Int) < 256 := by omega
 have HC := hid (And.intro eN (And.intro eE eH))
 have HA : Hid (∀ u : World, RpSt w u t false → Calls Tryz.prog 125 #[.pointer (some ⟨w.heap.size + 1, 0, none⟩)] u fun e w' => e = .returned (.int .i64 (H : Int)) ∧ RpSt w w' (cS1 t).1 (cS1 t).2) := hid (fun u hu => (rbyte_any _ _ _ u hu.rd).mono fun e w' ⟨he, hr, hk⟩ => ⟨by rw [he, eH]; rfl, hu.kept hk hr⟩)
 have HB : Hid (∀ u : World, RpSt w u (cS1 t).1 (cS1 t).2 → Calls Tryz.prog 201 #[.pointer (some ⟨w.heap.size + 1, 0, none⟩)] u fun e w' => e = .returned (.int .i64 (E : Int)) ∧ RpSt w w' (cS2 t).1 (cS2 t).2) := hid (fun u hu => (rword_any _ _ _ u hu.rd).mono fun e w' ⟨he, hr, hk⟩ => ⟨by rw [he, eE]; rfl, hu.kept hk hr⟩)
 have HD : Hid (∀ u : World, RpSt w u (cS2 t).1 (cS2 t).2 → Calls Tryz.prog 125 #[.pointer (some ⟨w.heap.size + 1, 0, none⟩)] u fun e w' => e = .returned (.int .i64 (N : Int)) ∧ RpSt w w' (cS3 t).1 (cS3 t).2) := hid (fun u hu => (rbyte_any _ _ _ u hu.rd).mono fun e w' ⟨he, hr, hk⟩ => ⟨by rw [he, eN]; rfl, hu.kept hk hr⟩)
 have HMk : Hid (∀ u : World, (Instr.makeSlice 22 (.int .i64 (N : Int)) (.int .i64 (N : Int))).run Tryz.prog u = .ok (.slice (some ⟨u.heap.size, 0, none⟩) N N) (u.alloc (.cells (iC (List.replicate N 0)).toArray 3))) := hid (fun u => run_makeI N N (by omega) (by omega) u)
 clear eN eE eH hN1
 go_enter Tryz.func208, Tryz.ntmps208
 go_wp2_with (first
   | (go_at_call 124; refine (read_any _ _).mono ?_; rintro e w1 ⟨rfl, rfl⟩)
   | (go_at_call 201; refine (HB.out _ (by exact H1.out)).mono ?_; rintro e w2 ⟨rfl, h2⟩; have H2 := hid h2; clear h2)
   | (go_at_call 125; have := H2; refine (HD.out _ (by exact H2.out)).mono ?_; rintro e w3 ⟨rfl, h3⟩; have H3 := hid h3; clear h3)
   | (go_at_call 125; refine (HA.out _ (by exact H0.out)).mono ?_; rintro e w1 ⟨rfl, h1⟩; have H1 := hid h1; clear h1)
   | rw [HMk.out])
 obtain ⟨b, eb⟩ : ∃ b, b = w3.heap.size := ⟨_, rfl⟩
 obtain ⟨S, eS⟩ : ∃ S, S = cS3 t := ⟨_, rfl⟩
 rw [← eS] at H3
 have H4 : Hid (RmSt w (w3.alloc (.cells (iC (List.replicate N 0)).toArray 3)) S.1 S.2 b (rdP S.1 S.2 N 0)) := hid ⟨H3.out.keep ((Below.refl _ _).alloc (Nat.le_refl _) _), by rw [eb]; exact heap_alloc_last w3 _, by rw [eb]; exact lt_of_blk H3.out.rd⟩
 rw [← eb]
 have HS := hid eS
 clear eb eS this H0 H1 H2
 go_loopw [21] (fun i wr => ∃ j : Nat, j ≤ N ∧ i = .int .i64 (j : Int) ∧ RmSt w wr (rdS S.1 S.2 j).1 (rdS S.1 S.2 j).2 b (rdP S.1 S.2 N j))
   (fun i _ => ((N : Int) - intOf i).toNat)
 case atStart => exact ⟨0, by omega, rfl, H4.out⟩
 case round =>
   obtain ⟨j, hj, rfl, hO⟩ := hrel
   have HO := hid hO
   clear hO H3
   by_cases hjn : j = N
   · have hj1 : ¬ ((j : Int) < (N : Int)) := by omega
     have hO := HO.out
     rw [hjn, rdP_all] at hO
     have HM : Hid (rdL S.1 S.2 N = cM t ∧ rdS S.1 S.2 N = cF t) := hid (by rw [HS.out, HC.out.1]; exact ⟨rfl, rfl⟩)
     rw [HM.out.1, HM.out.2] at hO
     have HF := hid hO
     clear hj hjn hO HO
     have HLN : Hid ((cM t).length = N) := hid (by rw [← HM.out.1, rdL_len])
     have HG : Hid (RmSt w (wr.alloc (.cells #[.int .i64 (E : Int), .slice (some ⟨b, 0, none⟩) N N] 24)) (cF t).1 (cF t).2 b (cM t)) := hid (HF.out.keep ((Below.refl _ _).alloc (Nat.le_refl _) _))
     have HK : Hid ((wr.alloc (.cells #[.int .i64 (E : Int), .slice (some ⟨b, 0, none⟩) N N] 24)).heap[wr.heap.size]? = some (.cells #[.int .i64 (E : Int), .slice (some ⟨b, 0, none⟩) N N] 24 (0, 0))) := hid (heap_alloc_last wr _)
     obtain ⟨wz, ewz⟩ : ∃ wz, wz = wr.alloc (.cells #[.int .i64 (E : Int), .slice (some ⟨b, 0, none⟩) N N] 24) := ⟨_, rfl⟩
     have r0 : wz.cell? ⟨w.heap.size, 0, none⟩ = some (.int .i64 0) := by rw [ewz]; exact cell_of_blk HG.out.st.res 0 (by simp)
     have r1 : wz.cell? ⟨w.heap.size, 1, none⟩ = some (.slice none 0 0) := by rw [ewz]; exact cell_of_blk HG.out.st.res 1 (by simp)
     have f0 : wz.frozen? ⟨w.heap.size, 0, none⟩ = false := by rw [ewz]; exact free_of_blk HG.out.st.res 0
     have f1 : wz.frozen? ⟨w.heap.size, 1, none⟩ = false := by rw [ewz]; exact free_of_blk HG.out.st.res 1
     have k0 : wz.cell? ⟨wr.heap.size, 0, none⟩ = some (.int .i64 (E : Int)) := by rw [ewz]; exact cell_of_blk HK.out 0 (by simp)
     have k1 : wz.cell? ⟨wr.heap.size, 1, none⟩ = some (.slice (some ⟨b, 0, none⟩) N N) := by rw [ewz]; exact cell_of_blk HK.out 1 (by simp)
     have HI : Hid (IntsIn wz (some ⟨b, 0, none⟩) (cM t)) := hid (by rw [ewz]; exact .inr ⟨b, 0, rfl, lt_of_blk HG.out.row, fun i z hz => heap_cells HG.out.row i _ (iC_get _ i z hz)⟩)
     rw [ewz] at r0 r1 f0 f1 k0 k1
     by_cases hH : H = 67
     · have hH1 : (H : Int) = 67 := by omega
       have hE := end_any (w.heap.size + 1) (cF t).1 (cF t).2 wz (by rw [ewz]; exact HG.out.st.rd)
       rw [ewz] at hE HI
       by_cases he : endOf (cF t).1 (cF t).2 = 0
       · rw [he] at hE
         have HEnd := hid hE
         have HRt : Hid (∀ (bb : Bool), rightC (E : Int) (cM t) = bb → ∀ u : World, IntsIn u (some ⟨b, 0, none⟩) (cM t) → Calls Tryz.prog 77 #[.agg #[.int .i64 (E : Int), .slice (some ⟨b, 0, none⟩) N N]] u fun e w' => e = .returned (.bool bb) ∧ Below u.heap.size u w') := hid (fun bb hbb u hu => by rw [← hbb]; exact cright_any (E : Int) _ N N (cM t) HLN.out (by unfold maxLen; omega) u hu)
         cases hr : rightC (E : Int) (cM t) with
         | true =>
           have HRb := hid (HRt.out true hr)
           have HB : Hid (readB t = true) := hid (by rw [readB, ← HC.out.2.2, ← HC.out.2.1, decide_eq_true hH, decide_eq_true he, hr]; rfl)
           clear hH he hr hE ewz
           go_wp2_with (first
             | (go_at_call 130; refine (HEnd.out).mono ?_; rintro e wx ⟨rfl, rfl⟩)
             | (go_at_call 77; refine (HRb.out _ (by exact HI.out)).mono ?_; rintro e w7 ⟨rfl, hb7⟩; have H7 := hid hb7; clear hb7
                have HR7 := hid ((H7.out.block _ (lt_of_blk HG.out.st.res)).trans HG.out.st.res)
                have HK7 := hid ((H7.out.block _ (lt_of_blk HK.out)).trans HK.out)
                have HM7 := hid ((H7.out.block _ (lt_of_blk HG.out.row)).trans HG.out.row)
                have q0 : w7.cell? ⟨wr.heap.size, 0, none⟩ = some (.int .i64 (E : Int)) := cell_of_blk HK7.out 0 (by simp)
                have q1 : w7.cell? ⟨wr.heap.size, 1, none⟩ = some (.slice (some ⟨b, 0, none⟩) N N) := cell_of_blk HK7.out 1 (by simp)
                have s0 : w7.cell? ⟨w.heap.size, 0, none⟩ = some (.int .i64 0) := cell_of_blk HR7.out 0 (by simp)
                have s1 : w7.cell? ⟨w.heap.size, 1, none⟩ = some (.slice none 0 0) := cell_of_blk HR7.out 1 (by simp)
                have g0 : w7.frozen? ⟨w.heap.size, 0, none⟩ = false := free_of_blk HR7.out 0
                have g1 : w7.frozen? ⟨w.heap.size, 1, none⟩ = false := free_of_blk HR7.out 1))
           refine ret_cell2 (s := 2) (s2 := 3) (ad := ⟨w.heap.size, 0, none⟩) rfl rfl (load_conf _ _ (.int .i64 (E : Int)) (.slice (some ⟨b, 0, none⟩) N N) (cell_of_blk (res_set HR7.out) 0 (by simp)) (cell_of_blk (res_set HR7.out) 1 (by simp))) rfl rfl ?_
           have hb2 := HG.out.hb
           have hbl := ((HG.out.st.bel.trans (H7.out.mono HG.out.st.bel.size)).setCell (p := ⟨w.heap.size, 0, none⟩) (Nat.le_refl _) (.int .i64 (E : Int))).setCell (p := ⟨w.heap.size, 1, none⟩) (Nat.le_refl _) (.slice (some ⟨b, 0, none⟩) N N)
           rw [readZ, readM, readE, HB.out, ← HC.out.2.1]
           refine ⟨_, rfl, own_of_blk (zs := cM t) (rest := []) ?_ (by omega) (by rw [HLN.out]; rfl) (by unfold maxLen; omega) HLN.out.symm hbl⟩
           rw [List.append_nil]
           exact (Below.heap_setCell _ _ _ _ (show b ≠ w.heap.size by omega)).trans ((Below.heap_setCell _ _ _ _ (show b ≠ w.heap.size by omega)).trans HM7.out)
         | false =>
           have HRb := hid (HRt.out false hr)
           have HB : Hid (readB t = false) := hid (by rw [readB, ← HC.out.2.1, hr]; simp)
           clear hH he hr hE ewz
           go_wp2_with (first
             | (go_at_call 130; refine (HEnd.out).mono ?_; rintro e wx ⟨rfl, rfl⟩)
             | (go_at_call 77; refine (HRb.out _ (by exact HI.out)).mono ?_; rintro e w7 ⟨rfl, hb7⟩; have H7 := hid hb7; clear hb7
                have HR7 := hid ((H7.out.block _ (lt_of_blk HG.out.st.res)).trans HG.out.st.res)
                have s0 : w7.cell? ⟨w.heap.size, 0, none⟩ = some (.int .i64 0) := cell_of_blk HR7.out 0 (by simp)
                have s1 : w7.cell? ⟨w.heap.size, 1, none⟩ = some (.slice none 0 0) := cell_of_blk HR7.out 1 (by simp)
                have g0 : w7.frozen? ⟨w.heap.size, 0, none⟩ = false := free_of_blk HR7.out 0
                have g1 : w7.frozen? ⟨w.heap.size, 1, none⟩ = false := free_of_blk HR7.out 1))
           refine ret_cell2 (s := 2) (s2 := 3) (ad := ⟨w.heap.size, 0, none⟩) rfl rfl (load_conf _ _ (.int .i64 0) (.slice none 0 0) (cell_of_blk (res_set HR7.out) 0 (by simp)) (cell_of_blk (res_set HR7.out) 1 (by simp))) rfl rfl ?_
           rw [readZ, readM, readE, HB.out]
           have hbl := ((HG.out.st.bel.trans (H7.out.mono HG.out.st.bel.size)).setCell (p := ⟨w.heap.size, 0, none⟩) (Nat.le_refl _) (.int .i64 0)).setCell (p := ⟨w.heap.size, 1, none⟩) (Nat.le_refl _) (.slice none 0 0)
           exact ⟨_, rfl, OwnedI.nil hbl hbl.size⟩
       · have HB : Hid (readB t = false) := hid (by rw [readB, decide_eq_false he]; simp)
         generalize endOf (cF t).1 (cF t).2 = er at hE he
         have HEnd := hid hE
         clear hH hE ewz
         go_wp2_with (go_at_call 130; refine (HEnd.out).mono ?_; rintro e wx ⟨rfl, rfl⟩)
         refine ret_cell2 (s := 2) (s2 := 3) (ad := ⟨w.heap.size, 0, none⟩) rfl rfl (load_conf _ _ (.int .i64 0) (.slice none 0 0) (cell_of_blk (res_set HG.out.st.res) 0 (by simp)) (cell_of_blk (res_set HG.out.st.res) 1 (by simp))) rfl rfl ?_
         rw [readZ, readM, readE, HB.out]
         have hbl := (HG.out.st.bel.setCell (p := ⟨w.heap.size, 0, none⟩) (Nat.le_refl _) (.int .i64 0)).setCell (p := ⟨w.heap.size, 1, none⟩) (Nat.le_refl _) (.slice none 0 0)
         exact ⟨_, rfl, OwnedI.nil hbl hbl.size⟩
     · have hH1 : ¬ ((H : Int) = 67) := by omega
       have HB : Hid (readB t = false) := hid (by rw [readB, ← HC.out.2.2, decide_eq_false hH]; rfl)
       clear hH ewz
       go_wp2
       refine ret_cell2 (s := 2) (s2 := 3) (ad := ⟨w.heap.size, 0, none⟩) rfl rfl (load_conf _ _ (.int .i64 0) (.slice none 0 0) (cell_of_blk (res_set HG.out.st.res) 0 (by simp)) (cell_of_blk (res_set HG.out.st.res) 1 (by simp))) rfl rfl ?_
       rw [readZ, readM, readE, HB.out]
       have hbl := (HG.out.st.bel.setCell (p := ⟨w.heap.size, 0, none⟩) (Nat.le_refl _) (.int .i64 0)).setCell (p := ⟨w.heap.size, 1, none⟩) (Nat.le_refl _) (.slice none 0 0)
       exact ⟨_, rfl, OwnedI.nil hbl hbl.size⟩
   · have hj1 : (j : Int) < (N : Int) := by omega
     have hj0 : (0 : Int) ≤ (j : Int) := Int.natCast_nonneg _
     obtain ⟨y, ey⟩ : ∃ y, y = rN (rdS S.1 S.2 j).1 (rdS S.1 S.2 j).2 1 := ⟨_, rfl⟩
     have HL : Hid ((rdP S.1 S.2 N j).set j (y : Int) = rdP S.1 S.2 N (j + 1)) := hid (by rw [ey]; exact rdP_set S.1 S.2 N j (by omega))
     have HK : Hid (∀ u : World, RmSt w u (rdS S.1 S.2 j).1 (rdS S.1 S.2 j).2 b (rdP S.1 S.2 N j) → Calls Tryz.prog 125 #[.pointer (some ⟨w.heap.size + 1, 0, none⟩)] u fun e w' => e = .returned (.int .i64 (y : Int)) ∧ RmSt w w' (rdS S.1 S.2 (j + 1)).1 (rdS S.1 S.2 (j + 1)).2 b (rdP S.1 S.2 N j)) := hid (fun u hu => (rbyte_any _ _ _ u hu.st.rd).mono fun e w' ⟨he, hr, hk⟩ => ⟨by rw [he, ey], hu.kept hk hr⟩)
     have HLn : Hid (j < (iC (rdP S.1 S.2 N j)).toArray.size) := hid (by show j < (iC (rdP S.1 S.2 N j)).length; rw [iC_len, rdP_len _ _ _ _ hj]; omega)
     have HJ := hid (And.intro hj hjn)
     clear ey hj hjn
     go_wp2_with (go_at_call 125; refine (HK.out _ (by exact HO.out)).mono ?_; rintro e w5 ⟨rfl, h5⟩; have H5 := hid h5; clear h5; have z5 := cell_of_blk H5.out.row j HLn.out; have f5 := free_of_blk H5.out.row j)
     go_roundw
     case rel => exact ⟨j + 1, by have := HJ.out; omega, by go_num, H5.out.put j _ HL.out⟩
     case measure => simp [intOf]; omega
end
section
open Go.RowKit
end
section
open Go.RowKit
theorem setAt_mid : ∀ (vs A B C : List Value), B.length = vs.length → setAt (A ++ (B ++ C)) A.length vs = A ++ (vs ++ C)
 | [], A, B, C, h => by
   obtain rfl := List.eq_nil_of_length_eq_zero h
   rfl
 | v :: vs, A, [], C, h => by cases h
 | v :: vs, A, b :: B, C, h => by
   have h1 : (A ++ (b :: B ++ C)).set A.length v = (A ++ [v]) ++ (B ++ C) := by simp
   rw [setAt, h1]
   have h2 := setAt_mid vs (A ++ [v]) B C (by simpa using h)
   rw [List.length_append] at h2
   rw [show A.length + 1 = A.length + [v].length from rfl, h2]
   simp
theorem row_len {α : Type} {f : α → List Value} {k : Nat} (hf : ∀ x, (f x).length = k) : ∀ G : List α, (G.flatMap f).length = G.length * k
 | [] => by simp
 | x :: G => by rw [List.flatMap_cons, List.length_append, hf, row_len hf G, List.length_cons, Nat.succ_mul]; omega
theorem row_split {α : Type} {f : α → List Value} {G : List α} {i : Nat} {x : α} (h : G[i]? = some x) : G.flatMap f = (G.take i).flatMap f ++ (f x ++ (G.drop (i + 1)).flatMap f) := by
 obtain ⟨hl, he⟩ := List.getElem?_eq_some_iff.1 h
 conv => lhs; rw [← List.take_append_drop i G, List.drop_eq_getElem_cons hl, he]
 rw [List.flatMap_append, List.flatMap_cons]
theorem row_at {α : Type} {f : α → List Value} {k : Nat} (hf : ∀ x, (f x).length = k) {G : List α} {i : Nat} {x : α} (h : G[i]? = some x) (q : Nat) (hq : q < k) : (G.flatMap f)[i * k + q]? = (f x)[q]? := by
 obtain ⟨hl, _⟩ := List.getElem?_eq_some_iff.1 h
 have h1 : ((G.take i).flatMap f).length = i * k := by rw [row_len hf, List.length_take, Nat.min_eq_left (Nat.le_of_lt hl)]
 rw [row_split h, List.getElem?_append_right (by omega), h1, Nat.add_sub_cancel_left, List.getElem?_append_left (by rw [hf]; exact hq)]
theorem row_set {α : Type} {f : α → List Value} {k : Nat} (hf : ∀ x, (f x).length = k) {G : List α} {i : Nat} (hi : i < G.length) (y : α) : setAt (G.flatMap f) (i * k) (f y) = (G.set i y).flatMap f := by
 have h : G[i]? = some G[i] := List.getElem?_eq_getElem hi
 have h1 : ((G.take i).flatMap f).length = i * k := by rw [row_len hf, List.length_take, Nat.min_eq_left (Nat.le_of_lt hi)]
 have h2 : (G.set i y)[i]? = some y := by simp [hi]
 rw [row_split h, ← h1, setAt_mid _ _ _ _ (by rw [hf, hf]), row_split h2, List.take_set, List.drop_set, List.set_eq_of_length_le (l := G.take i) (by rw [List.length_take]; omega)]
 simp
def nilV : Value := .slice none 0 0
def z4 : List (Ct × Value) := [(ct0, nilV), (ct0, nilV), (ct0, nilV), (ct0, nilV)]
section
variable {o : Oper} {a : Act} {w : World} {K : Act → World → Prop} {Q : Exit → Act → World → Prop} {ops : Array Oper} {rest : List Oper}
end
end
section
open Go.ChangeShapes Go.WideShapes Go.ChangeAt Go.RowKit
section
variable {H : Type} {enc : TypeId × Value → H} {W : World} {fuel : Nat} {x : DataW H × List MemPlace}
end
end
section
open Go.ChangeShapes Go.WideShapes Go.ChangeAt Go.RowKit
structure Cs where
 k : Int
 now : Int
 fr : Int
 q : Rq
 m : Ms
def shAskC : Sh := .st (.c .i (.c .i (.c .i (.c .s (.c .q (.c .i .u))))))
def shStepC : Sh := .st (.c .i (.c .i (.c .i (.c shAskC (.c shMsg .u)))))
def shStepsC : Sh := .l 296 26 shStepC
theorem of_askC : shAskC.Of Tryz.prog (.inl 36) := ⟨_, Tryz.underlying36, by kernel_rfl, ⟨_, _, rfl, rfl, by kernel_rfl, Tryz.underlying3, ⟨_, _, rfl, rfl, by kernel_rfl, Tryz.underlying3, ⟨_, _, rfl, rfl, by kernel_rfl, Tryz.underlying3, ⟨_, _, rfl, rfl, by kernel_rfl, Tryz.underlying9, ⟨_, _, rfl, rfl, by kernel_rfl, Tryz.underlying34, ⟨_, _, rfl, rfl, by kernel_rfl, Tryz.underlying3, rfl⟩⟩⟩⟩⟩⟩⟩
theorem of_stepC : shStepC.Of Tryz.prog (.inl 50) := ⟨_, Tryz.underlying50, by kernel_rfl, ⟨_, _, rfl, rfl, by kernel_rfl, Tryz.underlying3, ⟨_, _, rfl, rfl, by kernel_rfl, Tryz.underlying3, ⟨_, _, rfl, rfl, by kernel_rfl, Tryz.underlying3, ⟨_, _, rfl, rfl, by kernel_rfl, of_askC, ⟨_, _, rfl, rfl, by kernel_rfl, of_msg, rfl⟩⟩⟩⟩⟩⟩
theorem of_stepsC : shStepsC.Of Tryz.prog (.inl 25) := ⟨_, Tryz.underlying25, by kernel_rfl, by kernel_rfl, rfl, by decide, of_stepC⟩
def dCs (s : Cs) : List Dat := [.i s.k, .i s.now, .i s.fr, .i s.q.c, .i s.q.st, .i s.q.k, .s s.q.key, .q s.q.b, .i s.q.id] ++ dMs s.m
def csC (s : Cs) (v13 v14 v15 v16 : Value) : List Value := [.int .i64 s.k, .int .i64 s.now, .int .i64 s.fr, .int .i64 s.q.c, .int .i64 s.q.st, .int .i64 s.q.k, .string s.q.key, .int .u64 (s.q.b : Int), .int .i64 s.q.id] ++ msC s.m v13 v14 v15 v16
def csR (s : Cs) : Prop := rqR s.q ∧ MsB s.m ∧ (iR s.k ∧ iR s.now ∧ iR s.fr)
section
variable {S : Prop} {U : Nat}
theorem fit_askC {ds : List Dat} (h : Fits S U shAskC ds) : ∃ q : Rq, ds = [.i q.c, .i q.st, .i q.k, .s q.key, .q q.b, .i q.id] ∧ rqR q := by
 obtain ⟨e1, f1, rfl, ⟨x1, rfl, h1⟩, e2, f2, rfl, ⟨x2, rfl, h2⟩, e3, f3, rfl, ⟨x3, rfl, h3⟩, e4, f4, rfl, ⟨x4, rfl, h4, _⟩, e5, f5, rfl, ⟨x5, rfl, h5⟩, e6, f6, rfl, ⟨x6, rfl, h6⟩, rfl⟩ := h
 exact ⟨⟨x1, x2, x3, x4, x5, x6⟩, rfl, ⟨h1, h2⟩, ⟨h3, h6⟩, h4, h5⟩
theorem fit_stepC {ds : List Dat} (h : Fits S U shStepC ds) : ∃ s : Cs, ds = dCs s ∧ csR s := by
 obtain ⟨d1, r1, rfl, ⟨k, rfl, h1⟩, d2, r2, rfl, ⟨now, rfl, h2⟩, d3, r3, rfl, ⟨fr, rfl, h3⟩, d4, r4, rfl, h4, d5, r5, rfl, h5, rfl⟩ := h
 obtain ⟨q, rfl, hq⟩ := fit_askC h4
 obtain ⟨m, rfl, hm⟩ := fit_msg h5
 exact ⟨⟨k, now, fr, q, m⟩, by simp [dCs], hq, hm, h1, h2, h3⟩
theorem fit_stepsC {ds : List Dat} (h : Fits S U shStepsC ds) : ∃ l : List Cs, ds = [.l 26 (l.map dCs)] ∧ l.length ≤ maxLen ∧ (S → l.length * 296 ≤ 140737488351232) ∧ ∀ x, x ∈ l → csR x := by
 obtain ⟨es, rfl, h1, h2, _, h3⟩ := h
 obtain ⟨l, rfl, h4⟩ := fits_map (f := dCs) (Q := csR) es (fun d hd => fit_stepC (h3 d hd))
 rw [List.length_map] at h1 h2
 exact ⟨l, rfl, h1, h2, h4⟩
end
section
variable {H : Type} {enc : TypeId × Value → H} {W : World} {fuel : Nat} {x : DataW H × List MemPlace}
theorem open_stepC {c0 c1 c2 c3 c4 c5 c6 c7 c8 c9 c10 c11 c12 c13 c14 c15 c16 c17 c18 c19 c20 c21 c22 c23 c24 c25 : Value} (h : DataW.trod enc Tryz.prog W 0 (fun _ => true) true fuel 50 [c0, c1, c2, c3, c4, c5, c6, c7, c8, c9, c10, c11, c12, c13, c14, c15, c16, c17, c18, c19, c20, c21, c22, c23, c24, c25] = some x) :
   ∃ (s : Cs) (a13 : Option Addr) (k13 : Nat) (a14 : Option Addr) (k14 : Nat) (a15 : Option Addr) (k15 : Nat) (a16 : Option Addr) (k16 : Nat), (c0 = .int .i64 s.k ∧ c1 = .int .i64 s.now ∧ c2 = .int .i64 s.fr ∧ c3 = .int .i64 s.q.c ∧ c4 = .int .i64 s.q.st ∧ c5 = .int .i64 s.q.k ∧ c6 = .string s.q.key ∧ c7 = .int .u64 (s.q.b : Int) ∧ c8 = .int .i64 s.q.id ∧ c9 = .int .i64 s.m.k ∧ c10 = .int .i64 s.m.ep ∧ c11 = .int .i64 s.m.v ∧ c12 = .int .i64 s.m.sl ∧ c13 = .int .i64 s.m.rq.c ∧ c14 = .int .i64 s.m.rq.st ∧ c15 = .int .i64 s.m.rq.k ∧ c16 = .string s.m.rq.key ∧ c17 = .float .f64 s.m.rq.b ∧ c18 = .int .i64 s.m.rq.id ∧ c19 = .int .i64 s.m.rs.1 ∧ c20 = .float .f64 s.m.rs.2 ∧ c21 = .string s.m.tx ∧ c22 = .slice a13 s.m.nx.length k13 ∧ c23 = .slice a14 s.m.sg.length k14 ∧ c24 = .slice a15 s.m.cg.length k15 ∧ c25 = .slice a16 s.m.ln.length k16) ∧ csR s ∧ MsL (fun _ => True) W s.m (.slice a13 s.m.nx.length k13) (.slice a14 s.m.sg.length k14) (.slice a15 s.m.cg.length k15) (.slice a16 s.m.ln.length k16) := by
 obtain ⟨ds, hf, hc⟩ := (opens_all Tryz.prog shStepC).1 _ _ _ _ of_stepC h
 obtain ⟨s, rfl, hB⟩ := fit_stepC hf
 obtain ⟨_, q0, r0, _⟩ := hc 0 _ rfl
 obtain ⟨_, q1, r1, _⟩ := hc 1 _ rfl
 obtain ⟨_, q2, r2, _⟩ := hc 2 _ rfl
 obtain ⟨_, q3, r3, _⟩ := hc 3 _ rfl
 obtain ⟨_, q4, r4, _⟩ := hc 4 _ rfl
 obtain ⟨_, q5, r5, _⟩ := hc 5 _ rfl
 obtain ⟨_, q6, r6, _⟩ := hc 6 _ rfl
 obtain ⟨_, q7, r7, _⟩ := hc 7 _ rfl
 obtain ⟨_, q8, r8, _⟩ := hc 8 _ rfl
 obtain ⟨_, q9, r9, _⟩ := hc 9 _ rfl
 obtain ⟨_, q10, r10, _⟩ := hc 10 _ rfl
 obtain ⟨_, q11, r11, _⟩ := hc 11 _ rfl
 obtain ⟨_, q12, r12, _⟩ := hc 12 _ rfl
 obtain ⟨_, q13, r13, _⟩ := hc 13 _ rfl
 obtain ⟨_, q14, r14, _⟩ := hc 14 _ rfl
 obtain ⟨_, q15, r15, _⟩ := hc 15 _ rfl
 obtain ⟨_, q16, r16, _⟩ := hc 16 _ rfl
 obtain ⟨_, q17, r17, _⟩ := hc 17 _ rfl
 obtain ⟨_, q18, r18, _⟩ := hc 18 _ rfl
 obtain ⟨_, q19, r19, _⟩ := hc 19 _ rfl
 obtain ⟨_, q20, r20, _⟩ := hc 20 _ rfl
 obtain ⟨_, q21, r21, _⟩ := hc 21 _ rfl
 obtain ⟨_, q22, r22, _⟩ := hc 22 _ rfl
 obtain ⟨_, q23, r23, _⟩ := hc 23 _ rfl
 obtain ⟨_, q24, r24, _⟩ := hc 24 _ rfl
 obtain ⟨_, q25, r25, _⟩ := hc 25 _ rfl
 cases q0; cases q1; cases q2; cases q3; cases q4; cases q5; cases q6; cases q7; cases q8; cases q9; cases q10; cases q11; cases q12; cases q13; cases q14; cases q15; cases q16; cases q17; cases q18; cases q19; cases q20; cases q21; cases q22; cases q23; cases q24; cases q25
 obtain ⟨a13, k13, e13, _, _⟩ := reads_ints r22
 obtain ⟨a14, k14, e14, _, _⟩ := reads_pairs r23
 obtain ⟨a15, k15, e15⟩ := r24.form
 obtain ⟨a16, k16, e16⟩ := r25.form
 rw [List.length_map] at e15 e16
 subst e13 e14 e15 e16
 exact ⟨s, a13, k13, a14, k14, a15, k15, a16, k16, ⟨r0.int, r1.int, r2.int, r3.int, r4.int, r5.int, r6.str, r7.quad, r8.int, r9.int, r10.int, r11.int, r12.int, r13.int, r14.int, r15.int, r16.str, r17.flt, r18.int, r19.int, r20.flt, r21.str, rfl, rfl, rfl, rfl⟩, hB, ⟨r22.mono (fun _ _ _ => trivial), r23.mono (fun _ _ _ => trivial), r24.mono (fun _ _ _ => trivial), r25.mono (fun _ _ _ => trivial)⟩⟩
theorem open_confC {c0 c1 : Value} (h : DataW.trod enc Tryz.prog W 0 (fun _ => true) true fuel 24 [c0, c1] = some x) :
   ∃ (e : Int) (a : Option Addr) (k : Nat) (xs : List Int), c0 = .int .i64 e ∧ c1 = .slice a xs.length k ∧ xs.length ≤ maxLen ∧ IntsIn W a xs := by
 obtain ⟨ds, hf, hc⟩ := (opens_all Tryz.prog shConf).1 _ _ _ _ of_conf h
 obtain ⟨d5, d6, rfl, ⟨e, rfl, _⟩, d7, d8, rfl, hi, rfl⟩ := hf
 obtain ⟨xs, rfl, h1⟩ := fit_ints hi
 obtain ⟨u0, e0, r0, _⟩ := hc 0 _ rfl
 obtain ⟨u1, e1, r1, _⟩ := hc 1 _ rfl
 cases e0
 cases e1
 obtain ⟨ad, cap, hv, hi, _⟩ := reads_ints r1
 exact ⟨e, ad, cap, xs, r0.int, hv, h1.1, hi⟩
theorem open_stepsC {ad : Option Addr} {len cap : Nat} (h : DataW.trod enc Tryz.prog W 0 (fun _ => true) true fuel 25 [.slice ad len cap] = some x) :
   ∃ l : List Cs, l.length = len ∧ l.length ≤ maxLen ∧ ((∀ m ∈ x.1.weights Tryz.prog 25, m ≤ reachBytes) → l.length * 296 ≤ 140737488351232) ∧ Reads (fun _ => True) W (.slice ad len cap) (.l 26 (l.map dCs)) ∧ ∀ x, x ∈ l → csR x := by
 obtain ⟨ds, hf, hc⟩ := (opens_all Tryz.prog shStepsC).1 _ _ _ _ of_stepsC h
 obtain ⟨l, rfl, h1, h2, h3⟩ := fit_stepsC hf
 obtain ⟨u0, e0, r0, _⟩ := hc 0 _ rfl
 cases e0
 obtain ⟨ad', cap', hv⟩ := r0.form
 rw [List.length_map] at hv
 cases hv
 exact ⟨l, rfl, h1, h2, r0.mono (fun _ _ _ => trivial), h3⟩
end
theorem cs_at {F : Nat → Prop} {w : World} {v : Value} {l : List Cs} (h : Reads F w v (.l 26 (l.map dCs))) (j : Nat) (s : Cs) (hj : l[j]? = some s) :
   ∃ g off cap a13 c13 a14 c14 a15 c15 a16 c16, v = .slice (some ⟨g, off, none⟩) l.length cap ∧ F g ∧ g < w.heap.size ∧ (∀ (i : Nat) (u : Value), (csC s (.slice a13 s.m.nx.length c13) (.slice a14 s.m.sg.length c14) (.slice a15 s.m.cg.length c15) (.slice a16 s.m.ln.length c16))[i]? = some u → w.cell? ⟨g, off + j * 26 + i, none⟩ = some u) ∧ MsL F w s.m (.slice a13 s.m.nx.length c13) (.slice a14 s.m.sg.length c14) (.slice a15 s.m.cg.length c15) (.slice a16 s.m.ln.length c16) := by
 obtain ⟨g, off, cap, hv, hF, hg, _, hc⟩ := h.at j (dCs s) (by rw [List.getElem?_map, hj]; rfl)
 rw [List.length_map] at hv
 obtain ⟨u0, k0, r0⟩ := hc 0 _ rfl
 obtain ⟨u1, k1, r1⟩ := hc 1 _ rfl
 obtain ⟨u2, k2, r2⟩ := hc 2 _ rfl
 obtain ⟨u3, k3, r3⟩ := hc 3 _ rfl
 obtain ⟨u4, k4, r4⟩ := hc 4 _ rfl
 obtain ⟨u5, k5, r5⟩ := hc 5 _ rfl
 obtain ⟨u6, k6, r6⟩ := hc 6 _ rfl
 obtain ⟨u7, k7, r7⟩ := hc 7 _ rfl
 obtain ⟨u8, k8, r8⟩ := hc 8 _ rfl
 obtain ⟨u9, k9, r9⟩ := hc 9 _ rfl
 obtain ⟨u10, k10, r10⟩ := hc 10 _ rfl
 obtain ⟨u11, k11, r11⟩ := hc 11 _ rfl
 obtain ⟨u12, k12, r12⟩ := hc 12 _ rfl
 obtain ⟨u13, k13, r13⟩ := hc 13 _ rfl
 obtain ⟨u14, k14, r14⟩ := hc 14 _ rfl
 obtain ⟨u15, k15, r15⟩ := hc 15 _ rfl
 obtain ⟨u16, k16, r16⟩ := hc 16 _ rfl
 obtain ⟨u17, k17, r17⟩ := hc 17 _ rfl
 obtain ⟨u18, k18, r18⟩ := hc 18 _ rfl
 obtain ⟨u19, k19, r19⟩ := hc 19 _ rfl
 obtain ⟨u20, k20, r20⟩ := hc 20 _ rfl
 obtain ⟨u21, k21, r21⟩ := hc 21 _ rfl
 obtain ⟨u22, k22, r22⟩ := hc 22 _ rfl
 obtain ⟨u23, k23, r23⟩ := hc 23 _ rfl
 obtain ⟨u24, k24, r24⟩ := hc 24 _ rfl
 obtain ⟨u25, k25, r25⟩ := hc 25 _ rfl
 obtain rfl := r0.int
 obtain rfl := r1.int
 obtain rfl := r2.int
 obtain rfl := r3.int
 obtain rfl := r4.int
 obtain rfl := r5.int
 obtain rfl := r6.str
 obtain rfl := r7.quad
 obtain rfl := r8.int
 obtain rfl := r9.int
 obtain rfl := r10.int
 obtain rfl := r11.int
 obtain rfl := r12.int
 obtain rfl := r13.int
 obtain rfl := r14.int
 obtain rfl := r15.int
 obtain rfl := r16.str
 obtain rfl := r17.flt
 obtain rfl := r18.int
 obtain rfl := r19.int
 obtain rfl := r20.flt
 obtain rfl := r21.str
 obtain ⟨a13, c13, rfl, _, _⟩ := reads_ints r22
 obtain ⟨a14, c14, rfl, _, _⟩ := reads_pairs r23
 obtain ⟨a15, c15, e15⟩ := r24.form
 obtain ⟨a16, c16, e16⟩ := r25.form
 rw [List.length_map] at e15 e16
 subst e15 e16
 refine ⟨g, off, cap, a13, c13, a14, c14, a15, c15, a16, c16, hv, hF, hg, fun i u hu => ?_, ⟨r22, r23, r24, r25⟩⟩
 match i, hu with
 | 0, hu => cases hu; exact k0
 | 1, hu => cases hu; exact k1
 | 2, hu => cases hu; exact k2
 | 3, hu => cases hu; exact k3
 | 4, hu => cases hu; exact k4
 | 5, hu => cases hu; exact k5
 | 6, hu => cases hu; exact k6
 | 7, hu => cases hu; exact k7
 | 8, hu => cases hu; exact k8
 | 9, hu => cases hu; exact k9
 | 10, hu => cases hu; exact k10
 | 11, hu => cases hu; exact k11
 | 12, hu => cases hu; exact k12
 | 13, hu => cases hu; exact k13
 | 14, hu => cases hu; exact k14
 | 15, hu => cases hu; exact k15
 | 16, hu => cases hu; exact k16
 | 17, hu => cases hu; exact k17
 | 18, hu => cases hu; exact k18
 | 19, hu => cases hu; exact k19
 | 20, hu => cases hu; exact k20
 | 21, hu => cases hu; exact k21
 | 22, hu => cases hu; exact k22
 | 23, hu => cases hu; exact k23
 | 24, hu => cases hu; exact k24
 | 25, hu => cases hu; exact k25
 | i + 26, hu => cases hu
end
end Go.Proofs.YtoepppkadpjonaaGreat
