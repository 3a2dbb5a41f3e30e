/- Texts laid together: BaA BaB BaC ClI PaA TeA CoA CoB CoC CoD CoE CoF CoI TeE TeB BaD BaE TeF TeQ ClT TeC PkA PkM PkW PkP PkN MwA MwB PkB MwC CoG. -/
import Derived.Test.YtoepppkadpjonaaGreatProg
import Derived.WalkKit
import Derived.WalkSpells
import Derived.WalkLawsBesides
import Derived.Laws.MakeOwn
import Derived.Laws.IdiomStrings
import Derived.Laws.OwnMore
import Derived.Laws.CopyOwn
import Derived.Maps.AppendAt
import Derived.Deep.AppendLies
import Derived.Deep.RegionHeld3
import Derived.Deep.DrawnRows
import Derived.Deep.RegionLaw
import Derived.Lib.AppendStr
import Derived.Deep.WholeRow
import Derived.BigQuiet
import Derived.Lib.SliceRun
import Derived.Deep.QuietTactic
import Derived.OrdersHeld
import Derived.Laws.BitsAllLaws
import Derived.Deep.AppendSrc
namespace Go.Proofs.YtoepppkadpjonaaGreat
section
open Go.RowKit
theorem hid {p : Prop} (h : p) : Hid p := h
def bC (l : List UInt8) : List Value := l.map fun c => .int .u8 (c.toNat : Int)
theorem bC_app (a b : List UInt8) : bC (a ++ b) = bC a ++ bC b := by simp [bC]
def be : Nat → Nat → List UInt8
 | 0, _ => []
 | s + 1, n => UInt8.ofNat (n / 256 ^ s) :: be s n
theorem be_len (s n : Nat) : (be s n).length = s := by induction s with | zero => rfl | succ s ih => simp [be, ih]
theorem lt_of_blk {w : World} {b : Nat} {o : Obj} (h : w.heap[b]? = some o) : b < w.heap.size := (Array.getElem?_eq_some_iff.1 h).1
theorem data_len (s : ByteArray) : s.data.toList.length = s.size := rfl
theorem Tryz.info5 : (Tryz.prog.info? 5).map (fun i => (i.zero, i.size, i.bytes)) = some (some (.int .u8 0), 1, 1) := by kernel_rfl
end
section
open Go.RowKit
section
variable {P : Program} {o : Oper} {a : Act} {w : World} {K : Act → World → Prop} {Q : Exit → Act → World → Prop}
theorem owp_value {v : Value} {w' : World} (hrun : (execOp a.eval o).run P w = .ok (.value v) w') (h : K (a.put o.dst v) w') : o.wp P a w K Q := by
 unfold Oper.wp; rw [hrun]; exact h
theorem owp_skip {w' : World} (hrun : (execOp a.eval o).run P w = .ok .skip w') (h : K (a.put o.dst undef) w') : o.wp P a w K Q := by
 unfold Oper.wp; rw [hrun]; exact h
end
section
variable {P : Program} {o : Oper} {a : Act} {w : World} {K : Act → World → Prop} {Q : Exit → Act → World → Prop} {ops : Array Oper} {E : Prop}
end
theorem heap_cells {w : World} {g : Nat} {L : List Value} {t : TypeId} {fr : Nat × Nat} (h : w.heap[g]? = some (.cells L.toArray t fr)) (j : Nat) (v : Value) (hv : L[j]? = some v) : w.cell? ⟨g, 0 + j, none⟩ = some v := by
 simp [World.cell?, h, hv]
theorem cell_at {w : World} {g : Nat} {L : List Value} {t : TypeId} {fr : Nat × Nat} (h : w.heap[g]? = some (.cells L.toArray t fr)) (j : Nat) (v : Value) (hv : L[j]? = some v) : w.cell? ⟨g, j, none⟩ = some v := by
 simp [World.cell?, h, hv]
theorem free_at {w : World} {g : Nat} {L : Array Value} {t : TypeId} (h : w.heap[g]? = some (.cells L t (0, 0))) (j : Nat) : w.frozen? ⟨g, j, none⟩ = false := by
 simp [World.frozen?, h]
theorem blk_set {w : World} {g : Nat} {c : Array Value} {t : TypeId} (h : w.heap[g]? = some (.cells c t (0, 0))) (j : Nat) (v : Value) : (w.setCell ⟨g, j, none⟩ v).heap[g]? = some (.cells (c.setIfInBounds j v) t (0, 0)) := by
 simp [World.setCell, Array.getElem?_modify, h]
theorem snd_alloc (w : World) (A B : Obj) : ((w.alloc A).alloc B).heap[w.heap.size + 1]? = some B := by
 have := heap_alloc_last (w.alloc A) B
 simpa using this
theorem ext_data (s : ByteArray) (i j : Nat) : (s.extract i j).data.toList = (s.data.toList.take j).drop i := by
 rw [ByteArray.data_extract, Array.toList_extract]
 simp [List.drop_take]
theorem mk_data (l : List UInt8) : (⟨l.toArray⟩ : ByteArray).data.toList = l := rfl
theorem wrap_small (x : Int) (h0 : 0 ≤ x) (h1 : x < 1000) : IntKind.i64.wrap x = x := by
 simp [IntKind.wrap, IntKind.bits, IntKind.signed]
 omega
theorem ownsRow_keep {B : Nat} {w w' : World} {e : TypeId} {z : Nat} {v : Value} {n : Nat} {xs : List Value} (h : w.ownsRow B e z v n xs) (hb : Below w.heap.size w w') : w'.ownsRow B e z v n xs := by
 refine ⟨h.1, ?_⟩
 rcases h.2 with hn | ⟨g, cap, cur, hv, hB, hh, hr⟩
 · exact .inl hn
 · exact .inr ⟨g, cap, cur, hv, hB, (hb.block g (lt_of_blk hh)).trans hh, hr⟩
def Cls (W : World) : Type := { u : World // Below W.heap.size W u }
theorem Cls.ne (W : World) : Nonempty (Cls W) := ⟨⟨W, Below.refl _ _⟩⟩
theorem Cls.of {W : World} {f : FuncId} {args : Array Value} {v : Value} (x : Cls W)
   (h : ∀ u : World, Below W.heap.size W u → Calls Tryz.prog f args u fun e w' => e = .returned v ∧ Below u.heap.size u w') :
   Calls Tryz.prog f args x.1 fun e w'' => e = .returned v ∧ ∃ y : Cls W, w'' = y.1 :=
 (h x.1 x.2).mono fun _ w' ⟨he, hb⟩ => ⟨he, ⟨w', x.2.trans (hb.mono x.2.size)⟩, rfl⟩
theorem wp_region_cls {id : Nat} {Q : Exit → Act → World → Prop} {a : Act} (W : World) {l : List Oper} (hm : Tryz.prog.follows .mixedOrders = true) (hB : Region.lexB .any l.toArray = true)
   (h : wpQuiet Tryz.prog l.toArray (fun w' => ∃ x : Cls W, w' = x.1) (fun a' => ∀ w', (∃ x : Cls W, w' = x.1) → Q .normal a' w') l a) : (Code.region id l.toArray true).wp Tryz.prog Q a W :=
 wp_region_quiet (C := fun w' => ∃ x : Cls W, w' = x.1) hm hB ⟨⟨{ W with drawn := W.drawn + 1 }, ⟨rfl, rfl, rfl, Nat.le_refl _, fun _ _ => rfl⟩⟩, rfl⟩ (by simpa using h)
section
variable {o : Oper} {a : Act} {w : World} {K : Act → World → Prop} {Q : Exit → Act → World → Prop} {ops : Array Oper} {rest : List Oper} {QQ : Exit → Act → World → Prop}
end
end
section
open Go.RowKit
section
variable {o : Oper} {a : Act} {w : World} {Q : Exit → Act → World → Prop} {ops : Array Oper} {rest : List Oper}
end
def IntsIn (w : World) (a : Option Addr) (zs : List Int) : Prop :=
 zs = [] ∨ ∃ g off, a = some ⟨g, off, none⟩ ∧ g < w.heap.size ∧ ∀ j z, zs[j]? = some z → w.cell? ⟨g, off + j, none⟩ = some (.int .i64 z)
theorem IntsIn.keep {w w' : World} {a : Option Addr} {zs : List Int} {B : Nat} (h : IntsIn w a zs) (hb : Below B w w') (hB : w.heap.size ≤ B) : IntsIn w' a zs := by
 rcases h with h | ⟨g, off, ha, hg, hc⟩
 · exact .inl h
 · exact .inr ⟨g, off, ha, Nat.lt_of_lt_of_le hg hb.size, fun j s hs => (hb.cell (p := ⟨g, off + j, none⟩) (Nat.lt_of_lt_of_le hg hB)).trans (hc j s hs)⟩
theorem IntsIn.at {w : World} {a : Option Addr} {zs : List Int} (h : IntsIn w a zs) (j : Nat) (z : Int) (hj : zs[j]? = some z) : ∃ g off, a = some ⟨g, off, none⟩ ∧ g < w.heap.size ∧ w.cell? ⟨g, off + j, none⟩ = some (.int .i64 z) := by
 rcases h with h | ⟨g, off, ha, hg, hc⟩
 · rw [h] at hj; simp at hj
 · exact ⟨g, off, ha, hg, hc j z hj⟩
theorem Tryz.info3 : (Tryz.prog.info? 3).map (fun i => (i.zero, i.size, i.bytes)) = some (some (.int .i64 0), 1, 8) := by kernel_rfl
def iC (zs : List Int) : List Value := zs.map (Value.int .i64)
theorem iC_len (zs : List Int) : (iC zs).length = zs.length := by simp [iC]
theorem iC_one (zs : List Int) : ∀ v ∈ iC zs, v.oneCell' = true := by
 intro v hv
 obtain ⟨x, _, rfl⟩ := List.mem_map.1 hv
 rfl
theorem iC_get (zs : List Int) (j : Nat) (s : Int) (h : zs[j]? = some s) : (iC zs)[j]? = some (.int .i64 s) := by simp [iC, h]
theorem iC_back (zs : List Int) (j : Nat) (v : Value) (h : (iC zs)[j]? = some v) : ∃ s, zs[j]? = some s ∧ v = .int .i64 s := by
 simp [iC] at h
 obtain ⟨s, hs, rfl⟩ := h
 exact ⟨s, hs, rfl⟩
structure OwnedI (B : Nat) (w0 w : World) (v : Value) (zs : List Int) : Prop where
 own : w.ownsRow B 3 1 v zs.length (iC zs)
 bel : Below B w0 w
 le : B ≤ w.heap.size
theorem OwnedI.nil {B : Nat} {w0 w : World} (h : Below B w0 w) (hB : B ≤ w.heap.size) : OwnedI B w0 w (.slice none 0 0) [] := ⟨⟨rfl, .inl ⟨rfl, rfl⟩⟩, h, hB⟩
section
variable {o : Oper} {a : Act} {w : World} {Q : Exit → Act → World → Prop} {ops : Array Oper} {rest : List Oper}
end
end
section
set_option maxRecDepth 100000
open Go.RowKit
def Free (w : World) (k : Nat) : Prop := ∃ (cs : Array Value) (T : TypeId), w.heap[k]? = some (.cells cs T (0, 0))
theorem Free.lt {w : World} {k : Nat} (h : Free w k) : k < w.heap.size := by obtain ⟨_, _, h⟩ := h; exact lt_of_blk h
theorem Free.keep {w w' : World} {k : Nat} (h : Free w k) (hb : w'.heap[k]? = w.heap[k]?) : Free w' k := by obtain ⟨c, T, h⟩ := h; exact ⟨c, T, hb.trans h⟩
structure NewI (B : Nat) (w : World) (ad : Option Addr) (l : List Int) : Prop where
 ints : IntsIn w ad l
 far : ∀ x, ad = some x → B ≤ x.block ∧ Free w x.block
theorem NewI.keep {B : Nat} {w w' : World} {ad : Option Addr} {l : List Int} (h : NewI B w ad l) (hb : Below w.heap.size w w') : NewI B w' ad l :=
 ⟨h.ints.keep hb (Nat.le_refl _), fun x hx => ⟨(h.far x hx).1, (h.far x hx).2.keep (hb.block _ (h.far x hx).2.lt)⟩⟩
theorem OwnedI.slice {B : Nat} {w0 w : World} {v : Value} {zs : List Int} (h : OwnedI B w0 w v zs) : ∃ ad cap, v = .slice ad zs.length cap ∧ IntsIn w ad zs ∧ ∀ x, ad = some x → B ≤ x.block ∧ x.block < w.heap.size := by
 rcases h.own.2 with ⟨hv, h0⟩ | ⟨g, cap, cur, hv, hb, hh, hr⟩
 · exact ⟨none, 0, by rw [hv, h0], .inl (List.eq_nil_of_length_eq_zero h0), fun x hx => by cases hx⟩
 · refine ⟨_, cap, hv, .inr ⟨g, 0, rfl, lt_of_blk hh, fun j s hj => ?_⟩, fun x hx => by cases hx; exact ⟨hb, lt_of_blk hh⟩⟩
   subst hv
   have := h.own.cells (g := g) rfl j _ (iC_get zs j s hj)
   rwa [Addr.add_lit] at this
theorem OwnedI.new {B : Nat} {w0 w : World} {v : Value} {zs : List Int} (h : OwnedI B w0 w v zs) : ∃ ad cap, v = .slice ad zs.length cap ∧ NewI B w ad zs := by
 obtain ⟨ad, cap, hv, hi, _⟩ := h.slice
 refine ⟨ad, cap, hv, hi, fun x hx => ?_⟩
 rcases h.own.2 with ⟨hv2, h0⟩ | ⟨g, cap, cur, hv2, hb, hh, hr⟩
 · rw [hv, hx] at hv2; cases hv2
 · rw [hv, hx] at hv2; cases hv2; exact ⟨hb, _, _, hh⟩
set_option maxHeartbeats 2000000 in
theorem cloneInts_any (a : Option Addr) (n cap : Nat) (l : List Int) (hn : l.length = n) (hm : n * 8 ≤ 140737488355328) (w : World) (hI : IntsIn w a l) :
   Calls Tryz.prog 115 #[.slice a n cap] w fun e w' => ∃ a1 c1, e = .returned (.slice a1 n c1) ∧ NewI w.heap.size w' a1 l ∧ Below w.heap.size w w' := by
 have q22 : ∀ (w : World) (a : Option Addr) (n c n' c' : Nat), (binOp .eql 22 (.slice a n c) (.slice none n' c')).run Tryz.prog w = .ok (.bool a.isNone) w := fun w a n c n' c' => Lib.run_eql_slice_nil w _ _ a n c n' c' Tryz.underlying22
 cases a with
 | none =>
   obtain rfl : l = [] := by rcases hI with h | ⟨g, off, ha, _⟩; exact h; cases ha
   obtain rfl : 0 = n := hn
   clear hI hm
   go_enter Tryz.func115, Tryz.ntmps115
   go_wp2
   go_ret
   first | exact ⟨none, 0, rfl, ⟨.inl rfl, fun x hx => by cases hx⟩, Below.refl _ _⟩ | exact ⟨none, ⟨0, rfl⟩, ⟨.inl rfl, fun x hx => by cases hx⟩, Below.refl _ _⟩
 | some ad =>
   obtain ⟨i0, hi0, hz0, hz1, hz2⟩ := info_parts Tryz.info3
   have HP := hid hI
   have HN := hid (And.intro hn hm)
   clear hI hn hm
   go_enter Tryz.func115, Tryz.ntmps115
   go_wp2_with (at_builtin; refine wpList_append_own _ rfl _ _ 22 rfl w.heap.size 3 i0 (.int .i64 0) 1 8 Tryz.underlying22 hi0 hz0 hz1 hz2 rfl (by decide) _ _ _ rfl (World.ownsRow_made w #[] 0 (Nat.le_refl _) (Nat.zero_le _) rfl) ad n cap (iC l) rfl ?qc1 ?qc2 ?qc3 ?qc4 ?qc5 ?qc6 ?_)
   case qc1 => rw [iC_len, HN.out.1, Nat.mul_one]
   case qc2 =>
     intro j u hj
     obtain ⟨s, hs, rfl⟩ := iC_back l j u hj
     obtain ⟨g', off', eg, _, h1⟩ := HP.out.at j s hs
     cases eg
     rw [Addr.add_lit]
     exact Lib.cell?_alloc_some _ h1
   case qc3 => exact iC_one l
   case qc4 => have := HN.out.2; unfold maxLen; omega
   case qc5 => have := HN.out.2; omega
   case qc6 => simp
   intro v' w1 hown hgrow hnil
   have HO : Hid (OwnedI w.heap.size w w1 v' l) := hid ⟨by rw [HN.out.1]; simpa using hown, ((Below.refl _ w).alloc (Nat.le_refl _) _).grown hgrow (by simp) (by intro k hk; simp [Value.ownBlock] at hk; omega), by have := hgrow.size; simp at this; omega⟩
   clear hown hgrow hnil
   obtain ⟨a1, c1, hv, hN⟩ := HO.out.new
   rw [HN.out.1] at hv
   subst hv
   have HNw := hid hN
   clear hN
   go_wp2
   go_ret
   first | exact ⟨a1, c1, rfl, HNw.out, HO.out.bel⟩ | exact ⟨a1, ⟨c1, rfl⟩, HNw.out, HO.out.bel⟩
end
section
open Go.RowKit
def PairsIn (w : World) (a : Option Addr) (ps : List (Int × ByteArray)) : Prop :=
 ps = [] ∨ ∃ g off, a = some ⟨g, off, none⟩ ∧ g < w.heap.size ∧ ∀ j p, ps[j]? = some p → w.cell? ⟨g, off + j * 2, none⟩ = some (.int .i64 p.1) ∧ w.cell? ⟨g, off + j * 2 + 1, none⟩ = some (.string p.2)
theorem PairsIn.keep {w w' : World} {a : Option Addr} {ps : List (Int × ByteArray)} {B : Nat} (h : PairsIn w a ps) (hb : Below B w w') (hB : w.heap.size ≤ B) : PairsIn w' a ps := by
 rcases h with h | ⟨g, off, ha, hg, hc⟩
 · exact .inl h
 · exact .inr ⟨g, off, ha, Nat.lt_of_lt_of_le hg hb.size, fun j p hp => ⟨(hb.cell (p := ⟨g, _, none⟩) (Nat.lt_of_lt_of_le hg hB)).trans (hc j p hp).1, (hb.cell (p := ⟨g, _, none⟩) (Nat.lt_of_lt_of_le hg hB)).trans (hc j p hp).2⟩⟩
theorem PairsIn.at {w : World} {a : Option Addr} {ps : List (Int × ByteArray)} (h : PairsIn w a ps) (j : Nat) (p : Int × ByteArray) (hj : ps[j]? = some p) :
   ∃ g off, a = some ⟨g, off, none⟩ ∧ g < w.heap.size ∧ w.cell? ⟨g, off + j * 2, none⟩ = some (.int .i64 p.1) ∧ w.cell? ⟨g, off + j * 2 + 1, none⟩ = some (.string p.2) := by
 rcases h with h | ⟨g, off, ha, hg, hc⟩
 · rw [h] at hj; simp at hj
 · exact ⟨g, off, ha, hg, hc j p hj⟩
def pC (ps : List (Int × ByteArray)) : List Value := ps.flatMap fun p => [.int .i64 p.1, .string p.2]
theorem pC_cons (p : Int × ByteArray) (ps : List (Int × ByteArray)) : pC (p :: ps) = .int .i64 p.1 :: .string p.2 :: pC ps := rfl
theorem pC_len (ps : List (Int × ByteArray)) : (pC ps).length = ps.length * 2 := by
 induction ps with
 | nil => rfl
 | cons p ps ih => rw [pC_cons, List.length_cons, List.length_cons, ih, List.length_cons]; omega
theorem pC_get (ps : List (Int × ByteArray)) : ∀ (j : Nat) (p : Int × ByteArray), ps[j]? = some p → (pC ps)[j * 2]? = some (.int .i64 p.1) ∧ (pC ps)[j * 2 + 1]? = some (.string p.2) := by
 induction ps with
 | nil => intro j p h; simp at h
 | cons q ps ih =>
   intro j p h
   rw [pC_cons]
   cases j with
   | zero =>
     simp at h
     subst h
     exact ⟨rfl, rfl⟩
   | succ j =>
     have e1 : (j + 1) * 2 = j * 2 + 1 + 1 := by omega
     rw [e1]
     simp at h
     have := ih j p h
     exact ⟨by simpa using this.1, by simpa using this.2⟩
def idOf (ps : List (Int × ByteArray)) (i : Nat) : Int := (ps.getD i (0, ⟨#[]⟩)).1
def rtOf (ps : List (Int × ByteArray)) (i : Nat) : ByteArray := (ps.getD i (0, ⟨#[]⟩)).2
theorem getP_some {ps : List (Int × ByteArray)} {j : Nat} (hj : j < ps.length) : ps[j]? = some (idOf ps j, rtOf ps j) := by
 rw [List.getElem?_eq_getElem hj, idOf, rtOf, List.getD_eq_getElem?_getD, List.getElem?_eq_getElem hj]
 rfl
end
section
open Go.RowKit
theorem bytes_eq {a b : ByteArray} (h : a.data.toList = b.data.toList) : a = b := by
 apply ByteArray.ext
 exact Array.toList_inj.1 h
def eqP (p q : Int × ByteArray) : Bool := decide (p.1 = q.1) && decide (p.2.data.toList = q.2.data.toList)
def stands (l : List (Int × ByteArray)) (p : Int × ByteArray) : Bool := l.any (eqP p)
end
section
open Go.RowKit
def fltZ (n : Int) : Int := if n < 1 then 0 else (n - 1) / 3
def quoZ (n : Int) : Int := if n < 1 then 0 else (n + fltZ n) / 2 + 1
def wekZ (n : Int) : Int := if n < 1 then 0 else fltZ n + 1
theorem fltZ_lo {n : Int} (h : n < 1) : fltZ n = 0 := if_pos h
theorem quoZ_lo {n : Int} (h : n < 1) : quoZ n = 0 := if_pos h
theorem wekZ_lo {n : Int} (h : n < 1) : wekZ n = 0 := if_pos h
theorem fltZ_hi {n : Int} (h : ¬ n < 1) : fltZ n = (n - 1) / 3 := if_neg h
theorem quoZ_hi {n : Int} (h : ¬ n < 1) : quoZ n = (n + fltZ n) / 2 + 1 := if_neg h
theorem wekZ_hi {n : Int} (h : ¬ n < 1) : wekZ n = fltZ n + 1 := if_neg h
theorem fltZ_le {n : Int} (h : ¬ n < 1) : 0 ≤ fltZ n ∧ 3 * fltZ n ≤ n - 1 := by rw [fltZ_hi h]; omega
def okAt (l : List Int) (i : Nat) : Bool := decide (0 ≤ l.getD i 0 ∧ l.getD i 0 < 16) && (decide (i = 0) || decide (l.getD (i - 1) 0 < l.getD i 0))
def okTo (l : List Int) : Nat → Bool
 | 0 => true
 | j + 1 => okTo l j && okAt l j
theorem okTo_succ (l : List Int) (j : Nat) : okTo l (j + 1) = (okTo l j && okAt l j) := rfl
theorem okTo_false (l : List Int) (j n : Nat) (h : okTo l j = false) (hn : j ≤ n) : okTo l n = false := by
 induction n with
 | zero =>
   obtain rfl : j = 0 := by omega
   exact h
 | succ n ih =>
   by_cases e : j = n + 1
   · rw [← e]; exact h
   · rw [okTo_succ, ih (by omega)]; rfl
theorem okAt_no1 (l : List Int) (i : Nat) (h : ¬ (0 ≤ l.getD i 0 ∧ l.getD i 0 < 16)) : okAt l i = false := by rw [okAt, decide_eq_false h]; rfl
theorem okAt_no2 (l : List Int) (i : Nat) (h0 : i ≠ 0) (h : ¬ (l.getD (i - 1) 0 < l.getD i 0)) : okAt l i = false := by rw [okAt, decide_eq_false h, decide_eq_false h0]; simp
theorem okAt_yes0 (l : List Int) (h : 0 ≤ l.getD 0 0 ∧ l.getD 0 0 < 16) : okAt l 0 = true := by rw [okAt, decide_eq_true h]; rfl
theorem okAt_yes (l : List Int) (i : Nat) (h : 0 ≤ l.getD i 0 ∧ l.getD i 0 < 16) (h1 : l.getD (i - 1) 0 < l.getD i 0) : okAt l i = true := by rw [okAt, decide_eq_true h, decide_eq_true h1]; simp
def memB (l : List Int) : Bool := okTo l l.length && decide (4 ≤ l.length ∧ l.length ≤ 10)
def rightC (ep : Int) (l : List Int) : Bool := decide (0 ≤ ep ∧ ep ≤ 60) && memB l
def hasM (l : List Int) (id : Int) : Bool := decide (id ∈ l)
theorem okTo_at (l : List Int) : ∀ n, okTo l n = true → ∀ i, i < n → okAt l i = true
 | 0, _, i, hi => by omega
 | n + 1, h, i, hi => by
   rw [okTo_succ, Bool.and_eq_true_iff] at h
   by_cases e : i = n
   · rw [e]; exact h.2
   · exact okTo_at l n h.1 i (by omega)
theorem mem_len {l : List Int} (h : memB l = true) : 4 ≤ l.length ∧ l.length ≤ 10 := of_decide_eq_true (Bool.and_eq_true_iff.1 h).2
theorem mem_at {l : List Int} (h : memB l = true) (i : Nat) (hi : i < l.length) : okAt l i = true := okTo_at l _ (Bool.and_eq_true_iff.1 h).1 i hi
theorem mem_range {l : List Int} (h : memB l = true) (i : Nat) (hi : i < l.length) : 0 ≤ l.getD i 0 ∧ l.getD i 0 < 16 := of_decide_eq_true (Bool.and_eq_true_iff.1 (mem_at h i hi)).1
def leads (ep : Int) (l : List Int) (view : Int) : Bool := rightC ep l && decide (0 ≤ view)
end
section
open Go.RowKit
end
section
open Go.RowKit
end
section
open Go.RowKit
theorem not_mem_snoc {l : List Int} {id : Int} {j : Nat} (h : id ∉ l.take j) (hx : l.getD j 0 ≠ id) (hj : j < l.length) : id ∉ l.take (j + 1) := by
 rw [List.take_add_one, List.getElem?_eq_getElem hj]
 rw [List.getD_eq_getElem?_getD, List.getElem?_eq_getElem hj] at hx
 intro hm
 rcases List.mem_append.1 hm with h1 | h1
 · exact h h1
 · simp at h1 hx
   exact hx h1.symm
theorem mem_of_get {l : List Int} {id : Int} {j : Nat} (hx : l.getD j 0 = id) (hj : j < l.length) : id ∈ l := by
 rw [List.getD_eq_getElem?_getD, List.getElem?_eq_getElem hj] at hx
 rw [← hx]
 exact List.getElem_mem hj
theorem getD_some {l : List Int} {j : Nat} (hj : j < l.length) : l[j]? = some (l.getD j 0) := by rw [List.getD_eq_getElem?_getD, List.getElem?_eq_getElem hj]; rfl
theorem IntsIn.alloc {w : World} {a : Option Addr} {l : List Int} (h : IntsIn w a l) (o : Obj) : IntsIn (w.alloc o) a l := h.keep ((Below.refl w.heap.size w).alloc (Nat.le_refl _) o) (Nat.le_refl _)
end
section
open Go.RowKit
theorem right_mem {ep : Int} {l : List Int} (h : rightC ep l = true) : (0 ≤ ep ∧ ep ≤ 60) ∧ memB l = true := by
 obtain ⟨h1, h2⟩ := Bool.and_eq_true_iff.1 h
 exact ⟨of_decide_eq_true h1, h2⟩
theorem conf_cells (w : World) (ep s : Value) : (w.alloc (.cells #[ep, s] 24)).heap[w.heap.size]? = some (.cells [ep, s].toArray 24 (0, 0)) := heap_alloc_last w _
end
section
open Go.RowKit
end
section
open Go.RowKit
theorem getD_get (l : List Int) (i : Nat) (h : i < l.length) : l.getD i 0 = l[i] := by
 rw [List.getD_eq_getElem?_getD, List.getElem?_eq_getElem h]; rfl
theorem mem_in {l : List Int} (h : memB l = true) (x : Int) (hx : x ∈ l) : 0 ≤ x ∧ x < 16 := by
 obtain ⟨i, hi, rfl⟩ := List.getElem_of_mem hx
 have := mem_range h i hi
 rwa [getD_get l i hi] at this
end
section
open Go.RowKit
end
section
open Go.RowKit
theorem data_list (b : ByteArray) : b.toList = b.data.toList := ByteArray.toList_eq b
end
section
open Go.RowKit
section
variable {P : Program} {ops : Array Oper} {o : Oper} {a : Act} {w : World} {K : Act → World → Prop} {Q : Exit → Act → World → Prop}
theorem wpOp_q {i : Nat} (hi : ops[i]? = some o) (hgd : o.guard = none) (h : ∀ K' : Act → World → Prop, (∀ a w, K a w → K' a w) → o.wp P a w K' Q) : wpOp P ops Q i K a w := by
 unfold Go.wpOp
 simp only [hi]
 have hw : Region.wanted o (yielded ops a.tmps) = true := by simp [Region.wanted, hgd]
 simp only [hw, if_true]
 exact .inl (h K (fun _ _ h => h))
end
end
section
open Go.RowKit
theorem ret_pair {f : Func} {a : Act} {w : World} {Q : Ending → World → Prop} {s s2 : Nat} {t : TypeId} {ad : Addr} {v v2 : Value} (hr : f.results = #[.cell s t, .tmp s2]) (hs : a.tmps.getD s undef = .pointer (some ad)) (hl : (loadVar t ad).run Tryz.prog w = .ok v w) (h2 : a.tmps.getD s2 undef = v2) (hd : a.defers = [])
   (h : Q (.returned (.tuple #[v, v2])) w) : bodyPost Tryz.prog f Q .ret a w := by
 refine bodyPost_ret (v := .tuple #[v, v2]) ?_ hd h
 have h1 : a.tmps.getD s undef = .pointer (some ad) := hs
 simp [results, hr, -Array.getD_eq_getD_getElem?, h1, h2, asAddr, hl]
theorem cell_two {w : World} {b : Nat} {x y : Value} {T : TypeId} {fr : Nat × Nat} (h : w.heap[b]? = some (.cells #[x, y] T fr)) : w.cell? ⟨b, 0, none⟩ = some x ∧ w.cell? ⟨b, 1, none⟩ = some y :=
 ⟨cell_at (L := [x, y]) h 0 _ rfl, cell_at (L := [x, y]) h 1 _ rfl⟩
end
section
open Go.RowKit
theorem Tryz.info139 : (Tryz.prog.info? 139).map (fun i => (i.zero, i.size, i.bytes)) = some (some (.agg #[.int .i64 0, .string ⟨#[]⟩]), 2, 24) := by kernel_rfl
theorem own_pairsT {w : World} {B : Nat} {v : Value} {ps : List (Int × ByteArray)} {T : TypeId} (h : w.ownsRow B T 2 v ps.length (pC ps)) : ∃ ad cap, v = .slice ad ps.length cap ∧ PairsIn w ad ps := by
 rcases h.2 with ⟨hv, h0⟩ | ⟨g, cap, cur, hv, hB, hh, hx⟩
 · exact ⟨none, 0, by rw [hv, h0], .inl (List.eq_nil_of_length_eq_zero h0)⟩
 · refine ⟨_, cap, hv, .inr ⟨g, 0, rfl, lt_of_blk hh, fun j p hj => ?_⟩⟩
   subst hv
   have h1 := h.cells (g := g) rfl _ _ (pC_get ps j p hj).1
   have h2 := h.cells (g := g) rfl _ _ (pC_get ps j p hj).2
   rw [Addr.add_lit] at h1 h2
   exact ⟨h1, by rw [Nat.add_assoc]; exact h2⟩
end
section
open Go.RowKit
theorem pC_two : ∀ (ps : List (Int × ByteArray)) (j : Nat) (u : Value), (pC ps)[j]? = some u → ∃ p, ps[j / 2]? = some p ∧ ((j % 2 = 0 ∧ u = .int .i64 p.1) ∨ (j % 2 = 1 ∧ u = .string p.2))
 | [], j, u, h => by simp [pC] at h
 | p :: ps, 0, u, h => by
   rw [pC_cons] at h
   simp at h
   exact ⟨p, by simp, .inl ⟨rfl, h.symm⟩⟩
 | p :: ps, 1, u, h => by
   rw [pC_cons] at h
   simp at h
   exact ⟨p, by simp, .inr ⟨rfl, h.symm⟩⟩
 | p :: ps, j + 2, u, h => by
   rw [pC_cons] at h
   simp at h
   obtain ⟨q, hq, hu⟩ := pC_two ps j u h
   refine ⟨q, ?_, ?_⟩
   · rw [show (j + 2) / 2 = j / 2 + 1 by omega]
     simpa using hq
   · rw [show (j + 2) % 2 = j % 2 by omega]
     exact hu
theorem pC_cell1 (ps : List (Int × ByteArray)) : ∀ v ∈ pC ps, v.oneCell' = true := by
 intro v hv
 obtain ⟨j, hj, rfl⟩ := List.getElem_of_mem hv
 obtain ⟨p, _, h | h⟩ := pC_two ps j _ (List.getElem?_eq_getElem hj)
 · rw [h.2]; rfl
 · rw [h.2]; rfl
theorem pairs_cells {w : World} {ad : Addr} {ps : List (Int × ByteArray)} (h : PairsIn w (some ad) ps) (j : Nat) (u : Value) (hu : (pC ps)[j]? = some u) : w.cell? (ad.add j) = some u := by
 obtain ⟨p, hp, hu⟩ := pC_two ps j u hu
 obtain ⟨g, off, ha, hg, h0, h1⟩ := h.at (j / 2) p hp
 cases ha
 rw [Addr.add_lit]
 rcases hu with ⟨hj, rfl⟩ | ⟨hj, rfl⟩
 · rw [show off + j = off + j / 2 * 2 by omega]; exact h0
 · rw [show off + j = off + j / 2 * 2 + 1 by omega]; exact h1
structure OwnedT (B : Nat) (w0 w : World) (v : Value) (ps : List (Int × ByteArray)) : Prop where
 own : w.ownsRow B 139 2 v ps.length (pC ps)
 bel : Below B w0 w
 le : B ≤ w.heap.size
section
variable {o : Oper} {a : Act} {w : World} {Q : Exit → Act → World → Prop} {ops : Array Oper} {rest : List Oper} {K : Act → World → Prop}
end
end
section
set_option maxRecDepth 100000
open Go.RowKit
theorem OwnedT.sliceT {B : Nat} {w0 w : World} {v : Value} {ps : List (Int × ByteArray)} (h : OwnedT B w0 w v ps) : ∃ ad cap, v = .slice ad ps.length cap ∧ PairsIn w ad ps ∧ ∀ x, ad = some x → B ≤ x.block ∧ x.block < w.heap.size := by
 obtain ⟨ad, cap, hv, hp⟩ := own_pairsT h.own
 refine ⟨ad, cap, hv, hp, fun x hx => ?_⟩
 rcases h.own.2 with ⟨hv2, _⟩ | ⟨g, c, cur, hv2, hb, hh, _⟩
 · rw [hv, hx] at hv2; cases hv2
 · rw [hv, hx] at hv2; cases hv2; exact ⟨hb, lt_of_blk hh⟩
structure NewT (B : Nat) (w : World) (ad : Option Addr) (l : List (Int × ByteArray)) : Prop where
 pairs : PairsIn w ad l
 far : ∀ x, ad = some x → B ≤ x.block ∧ Free w x.block
theorem OwnedT.new {B : Nat} {w0 w : World} {v : Value} {zs : List (Int × ByteArray)} (h : OwnedT B w0 w v zs) : ∃ ad cap, v = .slice ad zs.length cap ∧ NewT B w ad zs := by
 obtain ⟨ad, cap, hv, hi, _⟩ := h.sliceT
 refine ⟨ad, cap, hv, hi, fun x hx => ?_⟩
 rcases h.own.2 with ⟨hv2, h0⟩ | ⟨g, cap, cur, hv2, hb, hh, hr⟩
 · rw [hv, hx] at hv2; cases hv2
 · rw [hv, hx] at hv2; cases hv2; exact ⟨hb, _, _, hh⟩
set_option maxHeartbeats 2000000 in
theorem cloneSigs_any (a : Option Addr) (n cap : Nat) (l : List (Int × ByteArray)) (hn : l.length = n) (hm : n * 24 ≤ 140737488355328) (w : World) (hI : PairsIn w a l) :
   Calls Tryz.prog 107 #[.slice a n cap] w fun e w' => ∃ a1 c1, e = .returned (.slice a1 n c1) ∧ NewT w.heap.size w' a1 l ∧ Below w.heap.size w w' := by
 have q22 : ∀ (w : World) (a : Option Addr) (n c n' c' : Nat), (binOp .eql 44 (.slice a n c) (.slice none n' c')).run Tryz.prog w = .ok (.bool a.isNone) w := fun w a n c n' c' => Lib.run_eql_slice_nil w _ _ a n c n' c' Tryz.underlying44
 cases a with
 | none =>
   obtain rfl : l = [] := by rcases hI with h | ⟨g, off, ha, _⟩; exact h; cases ha
   obtain rfl : 0 = n := hn
   clear hI hm
   go_enter Tryz.func107, Tryz.ntmps107
   go_wp2
   go_ret
   first | exact ⟨none, 0, rfl, ⟨.inl rfl, fun x hx => by cases hx⟩, Below.refl _ _⟩ | exact ⟨none, ⟨0, rfl⟩, ⟨.inl rfl, fun x hx => by cases hx⟩, Below.refl _ _⟩
 | some ad =>
   obtain ⟨i0, hi0, hz0, hz1, hz2⟩ := info_parts Tryz.info139
   have HP := hid hI
   have HN := hid (And.intro hn hm)
   clear hI hn hm
   go_enter Tryz.func107, Tryz.ntmps107
   go_wp2_with (at_builtin; refine wpList_append_own _ rfl _ _ 44 rfl w.heap.size 139 i0 (.agg #[.int .i64 0, .string ⟨#[]⟩]) 2 24 Tryz.underlying44 hi0 hz0 hz1 hz2 rfl (by decide) _ _ _ rfl (World.ownsRow_made w #[] 0 (Nat.le_refl _) (Nat.zero_le _) rfl) ad n cap (pC l) rfl ?qc1 ?qc2 ?qc3 ?qc4 ?qc5 ?qc6 ?_)
   case qc1 => rw [pC_len, HN.out.1]
   case qc2 =>
     intro j u hj
     exact Lib.cell?_alloc_some _ (pairs_cells HP.out j u hj)
   case qc3 => exact pC_cell1 l
   case qc4 => have := HN.out.2; unfold maxLen; omega
   case qc5 => have := HN.out.2; omega
   case qc6 => simp
   intro v' w1 hown hgrow hnil
   have HO : Hid (OwnedT w.heap.size w w1 v' l) := hid ⟨by rw [HN.out.1]; simpa using hown, ((Below.refl _ w).alloc (Nat.le_refl _) _).grown hgrow (by simp) (by intro k hk; simp [Value.ownBlock] at hk; omega), by have := hgrow.size; simp at this; omega⟩
   clear hown hgrow hnil
   obtain ⟨a1, c1, hv, hN⟩ := HO.out.new
   rw [HN.out.1] at hv
   subst hv
   have HNw := hid hN
   clear hN
   go_wp2
   go_ret
   first | exact ⟨a1, c1, rfl, HNw.out, HO.out.bel⟩ | exact ⟨a1, ⟨c1, rfl⟩, HNw.out, HO.out.bel⟩
end
section
open Go.RowKit
def okT (l : List Int) (t : ByteArray) (ss : List (Int × ByteArray)) (i : Nat) : Bool := decide ((rtOf ss i).data.toList = t.data.toList) && (hasM l (idOf ss i) && (decide (i = 0) || decide (idOf ss (i - 1) < idOf ss i)))
def okTTo (l : List Int) (t : ByteArray) (ss : List (Int × ByteArray)) : Nat → Bool
 | 0 => true
 | j + 1 => okTTo l t ss j && okT l t ss j
theorem okTTo_succ (l : List Int) (t : ByteArray) (ss : List (Int × ByteArray)) (j : Nat) : okTTo l t ss (j + 1) = (okTTo l t ss j && okT l t ss j) := rfl
theorem okTTo_false (l : List Int) (t : ByteArray) (ss : List (Int × ByteArray)) (j n : Nat) (h : okTTo l t ss j = false) (hn : j ≤ n) : okTTo l t ss n = false := by
 induction n with
 | zero =>
   obtain rfl : j = 0 := by omega
   exact h
 | succ n ih =>
   by_cases e : j = n + 1
   · rw [← e]; exact h
   · rw [okTTo_succ, ih (by omega)]; rfl
def provesB (ep : Int) (l : List Int) (t : ByteArray) (ss : List (Int × ByteArray)) : Bool := okTTo l t ss ss.length && (rightC ep l && (decide (quoZ (l.length : Int) ≤ (ss.length : Int)) && decide (ss.length ≤ 16)))
end
section
open Go.RowKit
structure Kept (b : Nat) (r : Option Nat) (w w' : World) : Prop where
 os : w'.os = w.os
 tape : w'.tape = w.tape
 output : w'.output = w.output
 size : w.heap.size ≤ w'.heap.size
 block : ∀ k, k < w.heap.size → k ≠ b → some k ≠ r → w'.heap[k]? = w.heap[k]?
theorem Kept.refl (b : Nat) (r : Option Nat) (w : World) : Kept b r w w := ⟨rfl, rfl, rfl, Nat.le_refl _, fun _ _ _ _ => rfl⟩
theorem Kept.trans {b : Nat} {r r' : Option Nat} {x y z : World} (h : Kept b r x y) (k : Kept b r' y z) (hr : r' = r ∨ ∃ g, r' = some g ∧ x.heap.size ≤ g) : Kept b r x z :=
 ⟨k.os.trans h.os, k.tape.trans h.tape, k.output.trans h.output, Nat.le_trans h.size k.size, fun i hi hb hne => by
   rw [k.block i (Nat.lt_of_lt_of_le hi h.size) hb (by rcases hr with rfl | ⟨g, rfl, hg⟩ <;> first | exact hne | (intro e; cases e; omega)), h.block i hi hb hne]⟩
theorem Kept.alloc {b : Nat} {r : Option Nat} {x y : World} (h : Kept b r x y) (o : Obj) : Kept b r x (y.alloc o) :=
 ⟨h.os, h.tape, h.output, by have := h.size; simp; omega, fun i hi hb hne => by rw [Below.heap_alloc _ _ _ (Nat.lt_of_lt_of_le hi h.size), h.block i hi hb hne]⟩
theorem Kept.drew {b : Nat} {r : Option Nat} {x y : World} (h : Kept b r x y) : Kept b r x y.drew := ⟨h.os, h.tape, h.output, h.size, h.block⟩
theorem Kept.setCell {b : Nat} {r : Option Nat} {x y : World} (h : Kept b r x y) (o : Nat) (u : Value) : Kept b r x (y.setCell ⟨b, o, none⟩ u) :=
 ⟨h.os, h.tape, h.output, by have := h.size; simpa [World.setCell] using this, fun i hi hb hne => by rw [Below.heap_setCell _ _ _ _ hb, h.block i hi hb hne]⟩
theorem Kept.grown {b : Nat} {r r' : Option Nat} {x y z : World} (h : Kept b r x y) (hg : y.grownBy z r') (hr : r' = r ∨ ∃ g, r' = some g ∧ x.heap.size ≤ g) : Kept b r x z :=
 h.trans ⟨hg.os, hg.tape, hg.output, hg.size, fun k hk _ hne => hg.block k hk hne⟩ hr
theorem Kept.below {b : Nat} {r : Option Nat} {x y : World} {B : Nat} (h : Kept b r x y) (hB : B ≤ x.heap.size) (hb : B ≤ b) (hr : ∀ g, r = some g → B ≤ g) : Below B x y :=
 ⟨h.os, h.tape, h.output, h.size, fun k hk => h.block k (by omega) (by omega) (fun e => by have := hr k e.symm; omega)⟩
structure WrAt (w : World) (b : Nat) (v : Value) (lim : Int) (l : List UInt8) (er : Int) : Prop where
 blk : w.heap[b]? = some (.cells #[.int .i64 lim, v, .int .i64 er] 202 (0, 0))
 own : w.ownsRow (b + 1) 5 1 v l.length (bC l)
theorem cell_of_blk {w : World} {b : Nat} {cs : Array Value} {t : TypeId} {fr : Nat × Nat} (h : w.heap[b]? = some (.cells cs t fr)) (j : Nat) (hj : j < cs.size) : w.cell? ⟨b, j, none⟩ = some cs[j] := by
 simp [World.cell?, h, hj]
theorem free_of_blk {w : World} {b : Nat} {cs : Array Value} {t : TypeId} (h : w.heap[b]? = some (.cells cs t (0, 0))) (j : Nat) : w.frozen? ⟨b, j, none⟩ = false := by
 simp [World.frozen?, h]
theorem WrAt.lt {w : World} {b : Nat} {v : Value} {lim : Int} {l : List UInt8} {er : Int} (h : WrAt w b v lim l er) : b < w.heap.size := lt_of_blk h.blk
theorem WrAt.c0 {w : World} {b : Nat} {v : Value} {lim : Int} {l : List UInt8} {er : Int} (h : WrAt w b v lim l er) : w.cell? ⟨b, 0, none⟩ = some (.int .i64 lim) := cell_of_blk h.blk 0 (by simp)
theorem WrAt.c1 {w : World} {b : Nat} {v : Value} {lim : Int} {l : List UInt8} {er : Int} (h : WrAt w b v lim l er) : w.cell? ⟨b, 1, none⟩ = some v := cell_of_blk h.blk 1 (by simp)
theorem WrAt.c2 {w : World} {b : Nat} {v : Value} {lim : Int} {l : List UInt8} {er : Int} (h : WrAt w b v lim l er) : w.cell? ⟨b, 2, none⟩ = some (.int .i64 er) := cell_of_blk h.blk 2 (by simp)
theorem WrAt.fr {w : World} {b : Nat} {v : Value} {lim : Int} {l : List UInt8} {er : Int} (h : WrAt w b v lim l er) (j : Nat) : w.frozen? ⟨b, j, none⟩ = false := free_of_blk h.blk j
def RdAt (w : World) (b : Nat) (s : ByteArray) (sh : Bool) : Prop := w.heap[b]? = some (.cells #[.string s, .bool sh] 207 (0, 0))
end
section
open Go.RowKit
def val (l : List UInt8) : Nat := l.foldl (fun n c => n * 256 + c.toNat) 0
theorem val_snoc (l : List UInt8) (c : UInt8) : val (l ++ [c]) = val l * 256 + c.toNat := by simp [val, List.foldl_append]
theorem val_lt (l : List UInt8) : val l < 256 ^ l.length := by
 rw [← List.reverse_reverse l]
 generalize l.reverse = r
 induction r with
 | nil => simp [val]
 | cons c r ih =>
   rw [List.reverse_cons, val_snoc, List.length_append, List.length_singleton, Nat.pow_succ]
   have := c.toNat_lt
   omega
theorem take_snoc (s : ByteArray) (k : Nat) (h : k < s.size) : s.data.toList.take (k + 1) = s.data.toList.take k ++ [s[k]] := by
 rw [List.take_succ_eq_append_getElem (by simpa using h)]; rfl
theorem or_add (a c : Nat) (hc : c < 256) : a * 256 ||| c = a * 256 + c := by
 have := Nat.two_pow_add_eq_or_of_lt (i := 8) hc a
 rw [Nat.mul_comm] at this
 simpa using this.symm
theorem or_val (a : Nat) (c : UInt8) (ha : a < 72057594037927936) :
   bits BinOp.or IntKind.u64 (IntKind.u64.wrap ((a : Int) * 256)) (IntKind.u64.wrap (c.toNat : Int)) = ((a * 256 + c.toNat : Nat) : Int) := by
 have hc := c.toNat_lt
 have e1 : IntKind.u64.wrap ((a : Int) * 256) = ((a * 256 : Nat) : Int) := by simp only [IntKind.wrap_u64]; omega
 have e2 : IntKind.u64.wrap (c.toNat : Int) = ((c.toNat : Nat) : Int) := by simp only [IntKind.wrap_u64]; omega
 rw [e1, e2, u64_or_nat _ _ (by omega) (by omega), or_add _ _ (by omega)]
theorem extract_list (s : ByteArray) (a b : Nat) : (s.extract a b).data.toList = (s.data.toList.take b).drop a := by
 simp [ByteArray.data_extract, List.drop_take]
theorem be_snoc (s n : Nat) : be (s + 1) n = be s (n / 256) ++ [UInt8.ofNat n] := by
 induction s with
 | zero => simp [be]
 | succ s ih =>
   rw [be, ih, be, List.cons_append, Nat.div_div_eq_div_mul, Nat.pow_succ, Nat.mul_comm (256 ^ s) 256]
theorem val_be (s n : Nat) : val (be s n) = n % 256 ^ s := by
 induction s generalizing n with
 | zero => simp [be, val, Nat.mod_one]
 | succ s ih =>
   have e : (UInt8.ofNat n).toNat = n % 256 := by simp
   rw [be_snoc, val_snoc, ih, e, Nat.pow_succ, Nat.mul_comm (256 ^ s) 256, Nat.mod_mul]
   omega
theorem be_val (l : List UInt8) : be l.length (val l) = l := by
 rw [← List.reverse_reverse l]
 generalize l.reverse = r
 induction r with
 | nil => rfl
 | cons c r ih =>
   have hc := c.toNat_lt
   rw [List.reverse_cons, val_snoc, List.length_append, List.length_singleton, be_snoc]
   have e1 : (val r.reverse * 256 + c.toNat) / 256 = val r.reverse := by omega
   have e2 : UInt8.ofNat (val r.reverse * 256 + c.toNat) = c := by
     apply UInt8.toNat_inj.1
     have e : ∀ n, (UInt8.ofNat n).toNat = n % 256 := fun n => by simp
     rw [e]
     omega
   rw [e1, e2, ih]
end
section
open Go.RowKit
structure Still (w w' : World) : Prop where
 os : w'.os = w.os
 tape : w'.tape = w.tape
 output : w'.output = w.output
 heap : w'.heap = w.heap
theorem Still.drew (w : World) : Still w w.drew := ⟨rfl, rfl, rfl, rfl⟩
theorem ownsRow_of_heap {w w' : World} (e : w'.heap = w.heap) {base : Nat} {t : TypeId} {size : Nat} {v : Value} {n : Nat} {xs : List Value} (h : w.ownsRow base t size v n xs) : w'.ownsRow base t size v n xs := by
 unfold World.ownsRow at h ⊢
 rw [e]
 exact h
theorem Still.wr {w w' : World} (e : Still w w') {b : Nat} {v : Value} {lim : Int} {l : List UInt8} {er : Int} (h : WrAt w b v lim l er) : WrAt w' b v lim l er :=
 ⟨by rw [e.heap]; exact h.blk, ownsRow_of_heap e.heap h.own⟩
set_option maxHeartbeats 400000 in
theorem new_any (n : Int) (w : World) :
   Calls Tryz.prog 117 #[.int .i64 n] w fun e w' => e = .returned (.pointer (some ⟨w.heap.size, 0, none⟩)) ∧ w' = w.alloc (.cells #[.int .i64 (max n 0), .slice none 0 0, .int .i64 0] 202) := by
 by_cases hn : n < 0
 · have e : max n 0 = 0 := by omega
   rw [e]
   clear e
   go_enter Tryz.func117, Tryz.ntmps117
   go_wp2
   go_ret
   exact ⟨rfl, rfl⟩
 · have e : max n 0 = n := by omega
   rw [e]
   clear e
   go_enter Tryz.func117, Tryz.ntmps117
   go_wp2
   go_ret
   exact ⟨rfl, rfl⟩
theorem done_ok (b : Nat) (v : Value) (lim : Int) (l : List UInt8) (w : World) (h : WrAt w b v lim l 0) :
   Calls Tryz.prog 123 #[.pointer (some ⟨b, 0, none⟩)] w fun e w' => e = .returned (.tuple #[.string ⟨l.toArray⟩, .int .i64 0]) ∧ w' = w := by
 have c1 := h.c1
 have c2 := h.c2
 rcases h.own.2 with ⟨rfl, h0⟩ | ⟨g, cap, cur, rfl, hg, hh, hnc, hcp, hcs, htake⟩
 · obtain rfl := List.eq_nil_of_length_eq_zero h0
   have hcv : ∀ w, (convert 196 9 (.slice none 0 0)).run Tryz.prog w = .ok (.string ⟨#[]⟩) w := fun w => by
     rw [run_convert_bytes_string w 196 9 5 none 0 0 Tryz.underlying196 Tryz.underlying5 Tryz.underlying9]; rfl
   go_enter Tryz.func123, Tryz.ntmps123
   go_wp2
   go_ret2
   exact ⟨rfl, rfl⟩
 · have hcv := run_convert_bytes_back (P := Tryz.prog) w 196 9 5 ⟨g, 0, none⟩ cap l Tryz.underlying196 Tryz.underlying5 Tryz.underlying9 (fun j hj => h.own.cells (g := g) rfl j _ (by simp [bC, hj]))
   go_enter Tryz.func123, Tryz.ntmps123
   go_wp2
   go_ret2
   exact ⟨rfl, rfl⟩
theorem done_err (b : Nat) (v : Value) (lim : Int) (l : List UInt8) (er : Int) (w : World) (h : WrAt w b v lim l er) (he : (er != 0) = true) :
   Calls Tryz.prog 123 #[.pointer (some ⟨b, 0, none⟩)] w fun e w' => e = .returned (.tuple #[.string ⟨#[]⟩, .int .i64 er]) ∧ w' = w.drew := by
 have c1 := h.c1
 have c2 := h.c2
 go_enter Tryz.func123, Tryz.ntmps123
 go_wp2
 go_region
 all_goals (try go_wp2)
 all_goals go_ret2
 exact ⟨rfl, rfl⟩
theorem WrAt.err {w : World} {b : Nat} {v : Value} {lim : Int} {l : List UInt8} {er : Int} (h : WrAt w b v lim l er) (u : Int) : WrAt (w.setCell ⟨b, 2, none⟩ (.int .i64 u)) b v lim l u :=
 ⟨by have := h.blk; simp [World.setCell, Array.getElem?_modify, this], ownsRow_setCell_below h.own (by show b < b + 1; omega) _⟩
def adm (lim : Int) (n : Nat) (er : Int) (inR : Bool) (size : Int) : Int := if er = 0 then (if inR then (if lim - n < size then 3 else 0) else 4) else er
theorem adm_bad (lim : Int) (n : Nat) (size : Int) : adm lim n 0 false size = 4 := by simp [adm]
theorem adm_er (lim : Int) (n : Nat) (er : Int) (inR : Bool) (size : Int) (he : er ≠ 0) : adm lim n er inR size = er := by simp [adm, he]
theorem adm_long (lim : Int) (n : Nat) (size : Int) (h : lim - n < size) : adm lim n 0 true size = 3 := by simp [adm, h]
theorem adm_ok (lim : Int) (n : Nat) (size : Int) (h : ¬ lim - n < size) : adm lim n 0 true size = 0 := by simp [adm, h]
set_option maxHeartbeats 400000 in
theorem admits_er (b : Nat) (v : Value) (lim : Int) (l : List UInt8) (er : Int) (inR : Bool) (size : Int) (w : World) (h : WrAt w b v lim l er) (he : (er != 0) = true) :
   Calls Tryz.prog 153 #[.pointer (some ⟨b, 0, none⟩), .bool inR, .int .i64 size] w fun e w' => e = .returned (.bool false) ∧ w' = w := by
 have c2 := h.c2
 clear h
 go_enter Tryz.func153, Tryz.ntmps153
 go_wp2
 go_ret
 exact ⟨rfl, rfl⟩
set_option maxHeartbeats 400000 in
theorem admits_bad (b : Nat) (v : Value) (lim : Int) (l : List UInt8) (size : Int) (w : World) (h : WrAt w b v lim l 0) :
   Calls Tryz.prog 153 #[.pointer (some ⟨b, 0, none⟩), .bool false, .int .i64 size] w fun e w' => e = .returned (.bool false) ∧ w' = w.setCell ⟨b, 2, none⟩ (.int .i64 4) := by
 have c2 := h.c2
 have f2 := h.fr 2
 clear h
 go_enter Tryz.func153, Tryz.ntmps153
 go_wp2
 go_ret
 exact ⟨rfl, rfl⟩
set_option maxHeartbeats 400000 in
theorem admits_long (b : Nat) (a : Option Addr) (n cap : Nat) (lim : Int) (size : Int) (w : World) (c0 : w.cell? ⟨b, 0, none⟩ = some (.int .i64 lim)) (c1 : w.cell? ⟨b, 1, none⟩ = some (.slice a n cap)) (c2 : w.cell? ⟨b, 2, none⟩ = some (.int .i64 0)) (f2 : w.frozen? ⟨b, 2, none⟩ = false)
   (h0 : 0 ≤ lim) (h1 : lim ≤ 9223372036854775807) (hl : n ≤ 140737488355328) (hs : lim - n < size) :
   Calls Tryz.prog 153 #[.pointer (some ⟨b, 0, none⟩), .bool true, .int .i64 size] w fun e w' => e = .returned (.bool false) ∧ w' = (w.setCell ⟨b, 2, none⟩ (.int .i64 3)).drew := by
 go_enter Tryz.func153, Tryz.ntmps153
 go_wp2
 go_region
 all_goals (try go_wp2)
 all_goals go_ret
 exact ⟨rfl, rfl⟩
set_option maxHeartbeats 400000 in
theorem admits_ok (b : Nat) (a : Option Addr) (n cap : Nat) (lim : Int) (size : Int) (w : World) (c0 : w.cell? ⟨b, 0, none⟩ = some (.int .i64 lim)) (c1 : w.cell? ⟨b, 1, none⟩ = some (.slice a n cap)) (c2 : w.cell? ⟨b, 2, none⟩ = some (.int .i64 0))
   (h0 : 0 ≤ lim) (h1 : lim ≤ 9223372036854775807) (hl : n ≤ 140737488355328) (hs : size ≤ lim - n) :
   Calls Tryz.prog 153 #[.pointer (some ⟨b, 0, none⟩), .bool true, .int .i64 size] w fun e w' => e = .returned (.bool true) ∧ w' = w.drew := by
 go_enter Tryz.func153, Tryz.ntmps153
 go_wp2
 go_region
 all_goals (try go_wp2)
 all_goals go_ret
 exact ⟨rfl, rfl⟩
theorem admits_any (b : Nat) (v : Value) (lim : Int) (l : List UInt8) (er : Int) (inR : Bool) (size : Int) (w : World) (h : WrAt w b v lim l er)
   (h0 : 0 ≤ lim) (h1 : lim ≤ 9223372036854775807) (hl : l.length ≤ 140737488355328) :
   Calls Tryz.prog 153 #[.pointer (some ⟨b, 0, none⟩), .bool inR, .int .i64 size] w fun e w' => e = .returned (.bool (decide (adm lim l.length er inR size = 0))) ∧ WrAt w' b v lim l (adm lim l.length er inR size) ∧ Kept b none w w' := by
 by_cases he : er = 0
 · subst he
   cases inR with
   | false =>
     rw [adm_bad]
     exact (admits_bad b v lim l size w h).mono fun e w' ⟨h1, h2⟩ => ⟨by simpa using h1, by rw [h2]; exact h.err 4, by rw [h2]; exact (Kept.refl _ _ _).setCell _ _⟩
   | true =>
     obtain ⟨a, cap, rfl⟩ : ∃ a cap, v = .slice a l.length cap := by
       rcases h.own.2 with ⟨hv, h0⟩ | ⟨g, cap, cur, hv, _⟩
       · exact ⟨none, 0, by rw [hv, h0]⟩
       · exact ⟨_, _, hv⟩
     by_cases hs : lim - l.length < size
     · rw [adm_long _ _ _ hs]
       exact (admits_long b a l.length cap lim size w h.c0 h.c1 h.c2 (h.fr 2) h0 h1 hl hs).mono fun e w' ⟨h1, h2⟩ => ⟨by simpa using h1, by rw [h2]; exact (Still.drew _).wr (h.err 3), by rw [h2]; exact ((Kept.refl _ _ _).setCell _ _).drew⟩
     · rw [adm_ok _ _ _ hs]
       exact (admits_ok b a l.length cap lim size w h.c0 h.c1 h.c2 h0 h1 hl (by omega)).mono fun e w' ⟨h1, h2⟩ => ⟨by simpa using h1, by rw [h2]; exact (Still.drew _).wr h, by rw [h2]; exact (Kept.refl _ _ _).drew⟩
 · rw [adm_er _ _ _ _ _ he]
   exact (admits_er b v lim l er inR size w h (by simpa using he)).mono fun e w' ⟨h1, h2⟩ => ⟨by simpa [he] using h1, by rw [h2]; exact h, by rw [h2]; exact Kept.refl _ _ _⟩
end
section
set_option maxRecDepth 100000
open Go.RowKit
attribute [local go_sem ↓] Go.wp_at_zero Go.wp_at_succ
def Moved (w : World) (v v' : Value) : Prop := v'.ownBlock = v.ownBlock ∨ ∃ g, v'.ownBlock = some g ∧ w.heap.size ≤ g
theorem Moved.refl (w : World) (v : Value) : Moved w v v := .inl rfl
theorem Moved.trans {w w' : World} {a b c : Value} (h : Moved w a b) (k : Moved w' b c) (hs : w.heap.size ≤ w'.heap.size) : Moved w a c := by
 rcases k with k | ⟨g, k, hg⟩
 · rcases h with h | ⟨g, h, hg⟩
   · exact .inl (k.trans h)
   · exact .inr ⟨g, k.trans h, hg⟩
 · exact .inr ⟨g, k, by omega⟩
theorem WrAt.bytes {w : World} {b : Nat} {v : Value} {lim : Int} {er : Int} (h : w.heap[b]? = some (.cells #[.int .i64 lim, v, .int .i64 er] 202 (0, 0))) {v' : Value} {l' : List UInt8} (ho : w.ownsRow (b + 1) 5 1 v' l'.length (bC l')) :
   WrAt (w.setCell ⟨b, 1, none⟩ v') b v' lim l' er :=
 ⟨by simp [World.setCell, Array.getElem?_modify, h], ownsRow_setCell_below ho (by show b < b + 1; omega) _⟩
theorem put_step {wr w1 : World} {b : Nat} {v : Value} {lim : Int} {L C : List UInt8} {er : Int} {o : Obj} {gg cap N : Nat} {news : List Value} (hR : WrAt wr b v lim L er)
   (hn : news = bC C) (hN : N = L.length + C.length)
   (hown1 : w1.ownsRow (b + 1) 5 1 (.slice (some ⟨gg, 0, none⟩) N cap) N (bC L ++ news)) (hgrow : (wr.alloc o).drew.grownBy w1 v.ownBlock) (hat : v.ownBlock = some gg ∨ gg = wr.heap.size + 1) :
   WrAt (w1.setCell ⟨b, 1, none⟩ (.slice (some ⟨gg, 0, none⟩) N cap)) b (.slice (some ⟨gg, 0, none⟩) N cap) lim (L ++ C) er ∧ Kept b v.ownBlock wr (w1.setCell ⟨b, 1, none⟩ (.slice (some ⟨gg, 0, none⟩) N cap)) ∧ Moved wr v (.slice (some ⟨gg, 0, none⟩) N cap) := by
 have hlt := hR.lt
 have hbv : some b ≠ v.ownBlock := fun e => by have := (hR.own.lt b e.symm).1; omega
 subst hn
 have hb1 : w1.heap[b]? = some (.cells #[.int .i64 lim, v, .int .i64 er] 202 (0, 0)) := by
   rw [hgrow.block b (by simp; omega) hbv]
   exact (Below.heap_alloc wr _ b hlt).trans hR.blk
 refine ⟨WrAt.bytes hb1 ?_, ?_, ?_⟩
 · rw [bC_app, List.length_append, ← hN]; exact hown1
 · exact ((((Kept.refl b v.ownBlock wr).alloc _).drew).grown hgrow (.inl rfl)).setCell _ _
 · rcases hat with h | h
   · exact .inl h.symm
   · exact .inr ⟨gg, rfl, by omega⟩
def upto (n j : Nat) : Nat := n / 256 ^ j
theorem upto_byte (n j : Nat) : IntKind.u8.wrap (upto n j : Int) = ((UInt8.ofNat (n / 256 ^ j)).toNat : Int) := by
 have e : (UInt8.ofNat (n / 256 ^ j)).toNat = n / 256 ^ j % 256 := by simp
 rw [e, IntKind.wrap_u8', upto]
 omega
theorem shr_run (n j : Nat) (hj : j ≤ 7) (w : World) : Sem.run Tryz.prog (Op.shift BinOp.shr IntKind.u64 (n : Int) IntKind.i64 (IntKind.i64.wrap (8 * (j : Int)))) w = .ok (.int .u64 (upto n j : Int)) w := by
 have e : IntKind.i64.wrap (8 * (j : Int)) = ((8 * j : Nat) : Int) := by rw [IntKind.wrap_i64]; omega
 rw [e, shift_shr_any _ _ _ _ (Int.natCast_nonneg _)]
 have e2 : min ((8 * j : Nat) : Int).toNat IntKind.u64.bits = 8 * j := by simp [IntKind.bits]; omega
 have e3 : ((2 : Int) ^ (8 * j)) = ((256 ^ j : Nat) : Int) := by rw [show (256 : Nat) = 2 ^ 8 from rfl, ← Nat.pow_mul]; simp
 rw [e2, upto, e3]
 simp
set_option maxHeartbeats 1600000 in
theorem put_any (b : Nat) (v0 : Value) (lim : Int) (l : List UInt8) (er : Int) (n size : Nat) (w : World) (h : WrAt w b v0 lim l er) (hs : size ≤ 8) (hn : n < 18446744073709551616) (hl : l.length + 8 ≤ 140737488355328) :
   Calls Tryz.prog 154 #[.pointer (some ⟨b, 0, none⟩), .int .u64 n, .int .i64 size] w fun e w' => e = .returned (.tuple #[]) ∧ ∃ v', WrAt w' b v' lim (l ++ be size n) er ∧ Kept b v0.ownBlock w w' ∧ Moved w v0 v' := by
 obtain ⟨i0, hi0, hz0, hz1, hz2⟩ := info_parts Tryz.info5
 have HN : Hid (n < 18446744073709551616) := hn
 have HW : Hid (WrAt w b v0 lim l er) := h
 clear hn h
 go_enter Tryz.func154, Tryz.ntmps154
 go_wp2
 go_loopw [6] (fun i wr => ∃ (k : Nat) (P : List UInt8) (v : Value), k ≤ size ∧ i = .int .i64 ((k : Int) - 1) ∧ P ++ be k n = be size n ∧ WrAt wr b v lim (l ++ P) er ∧ Kept b v0.ownBlock w wr ∧ Moved w v0 v)
   (fun i _ => (intOf i + 1).toNat)
 case atStart => exact ⟨size, [], v0, Nat.le_refl _, rfl, rfl, by simpa using HW.out, Kept.refl _ _ _, Moved.refl _ _⟩
 case round =>
   obtain ⟨k, P, v, hk, rfl, hP, hwr, hkept, hmov⟩ := hrel
   have hlt := hwr.lt
   have HP : Hid (P ++ be k n = be size n) := hP
   have HR : Hid (WrAt wr b v lim (l ++ P) er) := hwr
   have HK : Hid (Kept b v0.ownBlock w wr ∧ Moved w v0 v) := ⟨hkept, hmov⟩
   have hPl : P.length + k = size := by have := congrArg List.length hP; simpa [be_len] using this
   have c1 := hwr.c1
   have f1 := hwr.fr 1
   clear hP hwr hkept hmov
   cases k with
   | zero =>
     go_wp2
     go_end0
     refine ⟨rfl, v, ?_, HK.out⟩
     have e : P = be size n := by simpa [be] using HP.out
     rw [← e]; exact HR.out
   | succ j =>
     have ej : (((j + 1 : Nat) : Int) - 1) = (j : Int) := by omega
     rw [ej]
     clear ej
     have hj0 : (0 : Int) ≤ (j : Int) := Int.natCast_nonneg _
     have hj7 : (j : Int) ≤ 7 := by omega
     have hsh := shr_run n j (by omega)
     have ho := HR.out.own
     have hbv : some b ≠ v.ownBlock := fun e => by have := (ho.lt b e.symm).1; omega
     have hlen : (l ++ P).length + 1 ≤ 140737488355328 := by simp; omega
     go_wp2_with fail
     go_region_law
       ((refine step_append_lies _ (by rfl) _ _ _ (by rfl) (b + 1) 5 i0 _ 1 1 Tryz.underlying196 hi0 hz0 hz1 hz2 rfl (by omega) v (l ++ P).length (bC (l ++ P)) (by rfl) ((ho.alloc _).drew)
           ⟨wr.heap.size, 0, none⟩ 1 1 [.int .u8 (IntKind.u8.wrap (upto n j : Int))] (by rfl) (by rfl) (World.news_of_block (cs := #[.int .u8 (IntKind.u8.wrap (upto n j : Int))]) (t := 5) (fr := (0, 0)) (heap_alloc_new wr _)) (by simp [Value.oneCell'])
           (by omega) (by unfold maxLen; omega) (by omega) (by simp; omega) (wr.heap.size + 1) (by simp) ?_; intro gg cap w1 hown1 hgrow hat hlt1; have fz : w1.frozen? ⟨b, 1, none⟩ = false := (hgrow.frozen_far _ (by simp; omega) hbv).trans ((World.frozen?_of_block (Below.heap_alloc wr _ b hlt)).trans f1); have cz : w1.cell? ⟨b, 1, none⟩ = some v := (hgrow.cell_far _ (by simp; omega) hbv).trans ((World.cell?_of_block (Below.heap_alloc wr _ b hlt)).trans c1)))
     all_goals go_wp2
     all_goals
       go_roundw
       case rel =>
         have st := put_step (C := [UInt8.ofNat (n / 256 ^ j)]) HR.out (by simp [bC, upto_byte]) (by simp) hown1 hgrow hat
         rw [List.length_append] at st
         have hk2 := HK.out
         exact ⟨j, P ++ [UInt8.ofNat (n / 256 ^ j)], _, by omega, by go_num, by rw [List.append_assoc]; exact HP.out, by rw [← List.append_assoc]; exact st.1, hk2.1.trans st.2.1 hk2.2, hk2.2.trans st.2.2 hk2.1.size⟩
       case measure => simp [intOf]
end
section
set_option maxRecDepth 100000
open Go.RowKit
theorem kept_none {b : Nat} {r : Option Nat} {w w' : World} (h : Kept b none w w') : Kept b r w w' := ⟨h.os, h.tape, h.output, h.size, fun k hk hb _ => h.block k hk hb (by simp)⟩
def inR (s : Nat) (n : Int) : Bool := decide (0 ≤ n ∧ n < ((256 ^ s : Nat) : Int))
def wE (lim : Int) (l : List UInt8) (er : Int) (s : Nat) (n : Int) : Int := adm lim l.length er (inR s n) s
def wL (lim : Int) (l : List UInt8) (er : Int) (s : Nat) (n : Int) : List UInt8 := if adm lim l.length er (inR s n) s = 0 then l ++ be s n.toNat else l
set_option maxHeartbeats 800000 in
theorem wnum1_yes (b : Nat) (v : Value) (lim : Int) (l : List UInt8) (er : Int) (m : Nat) (w : World) (h : WrAt w b v lim l er)
   (h0 : 0 ≤ lim) (h1 : lim ≤ 9223372036854775807) (hl : l.length + 8 ≤ 140737488355328) (n1 : m < 256) (hd : adm lim l.length er true 1 = 0) :
   Calls Tryz.prog 152 #[.pointer (some ⟨b, 0, none⟩), .int .i64 m, .int .i64 1] w fun e w' => e = .returned (.tuple #[]) ∧ ∃ v', WrAt w' b v' lim (l ++ be 1 m) 0 ∧ Kept b v.ownBlock w w' ∧ Moved w v v' := by
 have hn : ((m : Int) / 256 == 0) = true := by simp; omega
 have ha := admits_any b v lim l er true 1 w h h0 h1 (by omega)
 have hdd : decide (adm lim l.length er true 1 = 0) = true := by simpa using hd
 rw [hdd, hd] at ha
 have HA := hid ha
 have HL := hid hl
 have hm0 : (0 : Int) ≤ (m : Int) := Int.natCast_nonneg _
 have hm1 : (m : Int) ≤ 4294967296 := by omega
 have HM : Hid (m < 18446744073709551616) := by unfold Hid; omega
 clear ha h hd hdd hl n1 h0 h1
 go_enter Tryz.func152, Tryz.ntmps152
 go_wp2_with fail
 refine HA.out.mono ?_
 rintro e w1 ⟨rfl, hr, hk⟩
 have HR := hid hr
 have HK := hid hk
 clear hr hk hn
 go_wp2_with fail
 refine (put_any b v lim l 0 m 1 w1 HR.out (by omega) HM.out HL.out).mono ?_
 rintro e w2 ⟨rfl, v', hv, hk2, hm⟩
 have HV := hid hv
 have HK2 := hid (And.intro hk2 hm)
 clear hv hk2 hm
 go_wp2
 go_end0
 exact ⟨rfl, v', HV.out, (kept_none HK.out).trans HK2.out.1 (.inl rfl), (Moved.refl w v).trans HK2.out.2 HK.out.size⟩
set_option maxHeartbeats 800000 in
theorem wnum1_no (b : Nat) (v : Value) (lim : Int) (l : List UInt8) (er : Int) (m : Nat) (w : World) (h : WrAt w b v lim l er)
   (h0 : 0 ≤ lim) (h1 : lim ≤ 9223372036854775807) (hl : l.length + 8 ≤ 140737488355328) (n1 : m < 256) (E : Int) (hE : adm lim l.length er true 1 = E) (hd : E ≠ 0) :
   Calls Tryz.prog 152 #[.pointer (some ⟨b, 0, none⟩), .int .i64 m, .int .i64 1] w fun e w' => e = .returned (.tuple #[]) ∧ ∃ v', WrAt w' b v' lim l E ∧ Kept b v.ownBlock w w' ∧ Moved w v v' := by
 have hn : ((m : Int) / 256 == 0) = true := by simp; omega
 have ha := admits_any b v lim l er true 1 w h h0 h1 (by omega)
 have hdd : decide (E = 0) = false := by simpa using hd
 rw [hE, hdd] at ha
 have HA := hid ha
 have hm0 : (0 : Int) ≤ (m : Int) := Int.natCast_nonneg _
 have hm1 : (m : Int) ≤ 4294967296 := by omega
 clear ha h hE hd hdd hl n1 h0 h1
 go_enter Tryz.func152, Tryz.ntmps152
 go_wp2_with fail
 refine HA.out.mono ?_
 rintro e w1 ⟨rfl, hr, hk⟩
 have HR := hid hr
 have HK := hid hk
 clear hr hk hn
 go_wp2
 go_end0
 exact ⟨rfl, v, HR.out, kept_none HK.out, Moved.refl _ _⟩
set_option maxHeartbeats 800000 in
theorem wnum1_out (b : Nat) (v : Value) (lim : Int) (l : List UInt8) (er : Int) (n : Int) (w : World) (h : WrAt w b v lim l er)
   (h0 : 0 ≤ lim) (h1 : lim ≤ 9223372036854775807) (hl : l.length + 8 ≤ 140737488355328) (hi : n ≤ 9223372036854775807) (hn : n < 0 ∨ 256 ≤ n) (E : Int) (hE : adm lim l.length er false 1 = E) :
   Calls Tryz.prog 152 #[.pointer (some ⟨b, 0, none⟩), .int .i64 n, .int .i64 1] w fun e w' => e = .returned (.tuple #[]) ∧ ∃ v', WrAt w' b v' lim l E ∧ Kept b v.ownBlock w w' ∧ Moved w v v' := by
 have ha := admits_any b v lim l er false 1 w h h0 h1 (by omega)
 have hd : ¬ E = 0 := by rw [← hE]; unfold adm; split <;> simp_all
 have hdd : decide (E = 0) = false := by simpa using hd
 rw [hE, hdd] at ha
 have HA := hid ha
 clear ha h hd hdd hE hl h0 h1
 rcases hn with hn | hn
 · go_enter Tryz.func152, Tryz.ntmps152
   go_wp2_with fail
   refine HA.out.mono ?_
   rintro e w1 ⟨rfl, hr, hk⟩
   have HR := hid hr
   have HK := hid hk
   clear hr hk
   go_wp2
   go_end0
   exact ⟨rfl, v, HR.out, kept_none HK.out, Moved.refl _ _⟩
 · have hq : (n / 256 == 0) = false := by simp; omega
   have hn0 : 0 ≤ n := by omega
   clear hn
   go_enter Tryz.func152, Tryz.ntmps152
   go_wp2_with fail
   refine HA.out.mono ?_
   rintro e w1 ⟨rfl, hr, hk⟩
   have HR := hid hr
   have HK := hid hk
   clear hr hk hq
   go_wp2
   go_end0
   exact ⟨rfl, v, HR.out, kept_none HK.out, Moved.refl _ _⟩
theorem wnum1_any (b : Nat) (v : Value) (lim : Int) (l : List UInt8) (er : Int) (n : Int) (w : World) (h : WrAt w b v lim l er)
   (h0 : 0 ≤ lim) (h1 : lim ≤ 9223372036854775807) (hl : l.length + 8 ≤ 140737488355328) (hi : n ≤ 9223372036854775807) :
   Calls Tryz.prog 152 #[.pointer (some ⟨b, 0, none⟩), .int .i64 n, .int .i64 1] w fun e w' => e = .returned (.tuple #[]) ∧ ∃ v', WrAt w' b v' lim (wL lim l er 1 n) (wE lim l er 1 n) ∧ Kept b v.ownBlock w w' ∧ Moved w v v' := by
 unfold wL wE inR
 by_cases hn : 0 ≤ n ∧ n < 256
 · have e : decide (0 ≤ n ∧ n < ((256 ^ 1 : Nat) : Int)) = true := by simp; omega
   rw [e]
   obtain ⟨m, rfl⟩ : ∃ m : Nat, n = m := ⟨n.toNat, by omega⟩
   by_cases hd : adm lim l.length er true 1 = 0
   · have := wnum1_yes b v lim l er m w h h0 h1 hl (by omega) hd
     simpa [hd] using this
   · have := wnum1_no b v lim l er m w h h0 h1 hl (by omega) _ rfl hd
     simpa [hd] using this
 · have e : decide (0 ≤ n ∧ n < ((256 ^ 1 : Nat) : Int)) = false := by simp; omega
   rw [e]
   have hd : ¬ adm lim l.length er false 1 = 0 := by unfold adm; split <;> simp_all
   have := wnum1_out b v lim l er n w h h0 h1 hl hi (by omega) _ rfl
   simpa [hd] using this
set_option maxHeartbeats 800000 in
theorem wnum2_yes (b : Nat) (v : Value) (lim : Int) (l : List UInt8) (er : Int) (m : Nat) (w : World) (h : WrAt w b v lim l er)
   (h0 : 0 ≤ lim) (h1 : lim ≤ 9223372036854775807) (hl : l.length + 8 ≤ 140737488355328) (n1 : m < 65536) (hd : adm lim l.length er true 2 = 0) :
   Calls Tryz.prog 152 #[.pointer (some ⟨b, 0, none⟩), .int .i64 m, .int .i64 2] w fun e w' => e = .returned (.tuple #[]) ∧ ∃ v', WrAt w' b v' lim (l ++ be 2 m) 0 ∧ Kept b v.ownBlock w w' ∧ Moved w v v' := by
 have hn : ((m : Int) / 65536 == 0) = true := by simp; omega
 have ha := admits_any b v lim l er true 2 w h h0 h1 (by omega)
 have hdd : decide (adm lim l.length er true 2 = 0) = true := by simpa using hd
 rw [hdd, hd] at ha
 have HA := hid ha
 have HL := hid hl
 have hm0 : (0 : Int) ≤ (m : Int) := Int.natCast_nonneg _
 have hm1 : (m : Int) ≤ 4294967296 := by omega
 have HM : Hid (m < 18446744073709551616) := by unfold Hid; omega
 clear ha h hd hdd hl n1 h0 h1
 go_enter Tryz.func152, Tryz.ntmps152
 go_wp2_with fail
 refine HA.out.mono ?_
 rintro e w1 ⟨rfl, hr, hk⟩
 have HR := hid hr
 have HK := hid hk
 clear hr hk hn
 go_wp2_with fail
 refine (put_any b v lim l 0 m 2 w1 HR.out (by omega) HM.out HL.out).mono ?_
 rintro e w2 ⟨rfl, v', hv, hk2, hm⟩
 have HV := hid hv
 have HK2 := hid (And.intro hk2 hm)
 clear hv hk2 hm
 go_wp2
 go_end0
 exact ⟨rfl, v', HV.out, (kept_none HK.out).trans HK2.out.1 (.inl rfl), (Moved.refl w v).trans HK2.out.2 HK.out.size⟩
set_option maxHeartbeats 800000 in
theorem wnum2_no (b : Nat) (v : Value) (lim : Int) (l : List UInt8) (er : Int) (m : Nat) (w : World) (h : WrAt w b v lim l er)
   (h0 : 0 ≤ lim) (h1 : lim ≤ 9223372036854775807) (hl : l.length + 8 ≤ 140737488355328) (n1 : m < 65536) (E : Int) (hE : adm lim l.length er true 2 = E) (hd : E ≠ 0) :
   Calls Tryz.prog 152 #[.pointer (some ⟨b, 0, none⟩), .int .i64 m, .int .i64 2] w fun e w' => e = .returned (.tuple #[]) ∧ ∃ v', WrAt w' b v' lim l E ∧ Kept b v.ownBlock w w' ∧ Moved w v v' := by
 have hn : ((m : Int) / 65536 == 0) = true := by simp; omega
 have ha := admits_any b v lim l er true 2 w h h0 h1 (by omega)
 have hdd : decide (E = 0) = false := by simpa using hd
 rw [hE, hdd] at ha
 have HA := hid ha
 have hm0 : (0 : Int) ≤ (m : Int) := Int.natCast_nonneg _
 have hm1 : (m : Int) ≤ 4294967296 := by omega
 clear ha h hE hd hdd hl n1 h0 h1
 go_enter Tryz.func152, Tryz.ntmps152
 go_wp2_with fail
 refine HA.out.mono ?_
 rintro e w1 ⟨rfl, hr, hk⟩
 have HR := hid hr
 have HK := hid hk
 clear hr hk hn
 go_wp2
 go_end0
 exact ⟨rfl, v, HR.out, kept_none HK.out, Moved.refl _ _⟩
set_option maxHeartbeats 800000 in
theorem wnum2_out (b : Nat) (v : Value) (lim : Int) (l : List UInt8) (er : Int) (n : Int) (w : World) (h : WrAt w b v lim l er)
   (h0 : 0 ≤ lim) (h1 : lim ≤ 9223372036854775807) (hl : l.length + 8 ≤ 140737488355328) (hi : n ≤ 9223372036854775807) (hn : n < 0 ∨ 65536 ≤ n) (E : Int) (hE : adm lim l.length er false 2 = E) :
   Calls Tryz.prog 152 #[.pointer (some ⟨b, 0, none⟩), .int .i64 n, .int .i64 2] w fun e w' => e = .returned (.tuple #[]) ∧ ∃ v', WrAt w' b v' lim l E ∧ Kept b v.ownBlock w w' ∧ Moved w v v' := by
 have ha := admits_any b v lim l er false 2 w h h0 h1 (by omega)
 have hd : ¬ E = 0 := by rw [← hE]; unfold adm; split <;> simp_all
 have hdd : decide (E = 0) = false := by simpa using hd
 rw [hE, hdd] at ha
 have HA := hid ha
 clear ha h hd hdd hE hl h0 h1
 rcases hn with hn | hn
 · go_enter Tryz.func152, Tryz.ntmps152
   go_wp2_with fail
   refine HA.out.mono ?_
   rintro e w1 ⟨rfl, hr, hk⟩
   have HR := hid hr
   have HK := hid hk
   clear hr hk
   go_wp2
   go_end0
   exact ⟨rfl, v, HR.out, kept_none HK.out, Moved.refl _ _⟩
 · have hq : (n / 65536 == 0) = false := by simp; omega
   have hn0 : 0 ≤ n := by omega
   clear hn
   go_enter Tryz.func152, Tryz.ntmps152
   go_wp2_with fail
   refine HA.out.mono ?_
   rintro e w1 ⟨rfl, hr, hk⟩
   have HR := hid hr
   have HK := hid hk
   clear hr hk hq
   go_wp2
   go_end0
   exact ⟨rfl, v, HR.out, kept_none HK.out, Moved.refl _ _⟩
theorem wnum2_any (b : Nat) (v : Value) (lim : Int) (l : List UInt8) (er : Int) (n : Int) (w : World) (h : WrAt w b v lim l er)
   (h0 : 0 ≤ lim) (h1 : lim ≤ 9223372036854775807) (hl : l.length + 8 ≤ 140737488355328) (hi : n ≤ 9223372036854775807) :
   Calls Tryz.prog 152 #[.pointer (some ⟨b, 0, none⟩), .int .i64 n, .int .i64 2] w fun e w' => e = .returned (.tuple #[]) ∧ ∃ v', WrAt w' b v' lim (wL lim l er 2 n) (wE lim l er 2 n) ∧ Kept b v.ownBlock w w' ∧ Moved w v v' := by
 unfold wL wE inR
 by_cases hn : 0 ≤ n ∧ n < 65536
 · have e : decide (0 ≤ n ∧ n < ((256 ^ 2 : Nat) : Int)) = true := by simp; omega
   rw [e]
   obtain ⟨m, rfl⟩ : ∃ m : Nat, n = m := ⟨n.toNat, by omega⟩
   by_cases hd : adm lim l.length er true 2 = 0
   · have := wnum2_yes b v lim l er m w h h0 h1 hl (by omega) hd
     simpa [hd] using this
   · have := wnum2_no b v lim l er m w h h0 h1 hl (by omega) _ rfl hd
     simpa [hd] using this
 · have e : decide (0 ≤ n ∧ n < ((256 ^ 2 : Nat) : Int)) = false := by simp; omega
   rw [e]
   have hd : ¬ adm lim l.length er false 2 = 0 := by unfold adm; split <;> simp_all
   have := wnum2_out b v lim l er n w h h0 h1 hl hi (by omega) _ rfl
   simpa [hd] using this
set_option maxHeartbeats 800000 in
theorem wnum4_yes (b : Nat) (v : Value) (lim : Int) (l : List UInt8) (er : Int) (m : Nat) (w : World) (h : WrAt w b v lim l er)
   (h0 : 0 ≤ lim) (h1 : lim ≤ 9223372036854775807) (hl : l.length + 8 ≤ 140737488355328) (n1 : m < 4294967296) (hd : adm lim l.length er true 4 = 0) :
   Calls Tryz.prog 152 #[.pointer (some ⟨b, 0, none⟩), .int .i64 m, .int .i64 4] w fun e w' => e = .returned (.tuple #[]) ∧ ∃ v', WrAt w' b v' lim (l ++ be 4 m) 0 ∧ Kept b v.ownBlock w w' ∧ Moved w v v' := by
 have hn : ((m : Int) / 4294967296 == 0) = true := by simp; omega
 have ha := admits_any b v lim l er true 4 w h h0 h1 (by omega)
 have hdd : decide (adm lim l.length er true 4 = 0) = true := by simpa using hd
 rw [hdd, hd] at ha
 have HA := hid ha
 have HL := hid hl
 have hm0 : (0 : Int) ≤ (m : Int) := Int.natCast_nonneg _
 have hm1 : (m : Int) ≤ 4294967296 := by omega
 have HM : Hid (m < 18446744073709551616) := by unfold Hid; omega
 clear ha h hd hdd hl n1 h0 h1
 go_enter Tryz.func152, Tryz.ntmps152
 go_wp2_with fail
 refine HA.out.mono ?_
 rintro e w1 ⟨rfl, hr, hk⟩
 have HR := hid hr
 have HK := hid hk
 clear hr hk hn
 go_wp2_with fail
 refine (put_any b v lim l 0 m 4 w1 HR.out (by omega) HM.out HL.out).mono ?_
 rintro e w2 ⟨rfl, v', hv, hk2, hm⟩
 have HV := hid hv
 have HK2 := hid (And.intro hk2 hm)
 clear hv hk2 hm
 go_wp2
 go_end0
 exact ⟨rfl, v', HV.out, (kept_none HK.out).trans HK2.out.1 (.inl rfl), (Moved.refl w v).trans HK2.out.2 HK.out.size⟩
set_option maxHeartbeats 800000 in
theorem wnum4_no (b : Nat) (v : Value) (lim : Int) (l : List UInt8) (er : Int) (m : Nat) (w : World) (h : WrAt w b v lim l er)
   (h0 : 0 ≤ lim) (h1 : lim ≤ 9223372036854775807) (hl : l.length + 8 ≤ 140737488355328) (n1 : m < 4294967296) (E : Int) (hE : adm lim l.length er true 4 = E) (hd : E ≠ 0) :
   Calls Tryz.prog 152 #[.pointer (some ⟨b, 0, none⟩), .int .i64 m, .int .i64 4] w fun e w' => e = .returned (.tuple #[]) ∧ ∃ v', WrAt w' b v' lim l E ∧ Kept b v.ownBlock w w' ∧ Moved w v v' := by
 have hn : ((m : Int) / 4294967296 == 0) = true := by simp; omega
 have ha := admits_any b v lim l er true 4 w h h0 h1 (by omega)
 have hdd : decide (E = 0) = false := by simpa using hd
 rw [hE, hdd] at ha
 have HA := hid ha
 have hm0 : (0 : Int) ≤ (m : Int) := Int.natCast_nonneg _
 have hm1 : (m : Int) ≤ 4294967296 := by omega
 clear ha h hE hd hdd hl n1 h0 h1
 go_enter Tryz.func152, Tryz.ntmps152
 go_wp2_with fail
 refine HA.out.mono ?_
 rintro e w1 ⟨rfl, hr, hk⟩
 have HR := hid hr
 have HK := hid hk
 clear hr hk hn
 go_wp2
 go_end0
 exact ⟨rfl, v, HR.out, kept_none HK.out, Moved.refl _ _⟩
set_option maxHeartbeats 800000 in
theorem wnum4_out (b : Nat) (v : Value) (lim : Int) (l : List UInt8) (er : Int) (n : Int) (w : World) (h : WrAt w b v lim l er)
   (h0 : 0 ≤ lim) (h1 : lim ≤ 9223372036854775807) (hl : l.length + 8 ≤ 140737488355328) (hi : n ≤ 9223372036854775807) (hn : n < 0 ∨ 4294967296 ≤ n) (E : Int) (hE : adm lim l.length er false 4 = E) :
   Calls Tryz.prog 152 #[.pointer (some ⟨b, 0, none⟩), .int .i64 n, .int .i64 4] w fun e w' => e = .returned (.tuple #[]) ∧ ∃ v', WrAt w' b v' lim l E ∧ Kept b v.ownBlock w w' ∧ Moved w v v' := by
 have ha := admits_any b v lim l er false 4 w h h0 h1 (by omega)
 have hd : ¬ E = 0 := by rw [← hE]; unfold adm; split <;> simp_all
 have hdd : decide (E = 0) = false := by simpa using hd
 rw [hE, hdd] at ha
 have HA := hid ha
 clear ha h hd hdd hE hl h0 h1
 rcases hn with hn | hn
 · go_enter Tryz.func152, Tryz.ntmps152
   go_wp2_with fail
   refine HA.out.mono ?_
   rintro e w1 ⟨rfl, hr, hk⟩
   have HR := hid hr
   have HK := hid hk
   clear hr hk
   go_wp2
   go_end0
   exact ⟨rfl, v, HR.out, kept_none HK.out, Moved.refl _ _⟩
 · have hq : (n / 4294967296 == 0) = false := by simp; omega
   have hn0 : 0 ≤ n := by omega
   clear hn
   go_enter Tryz.func152, Tryz.ntmps152
   go_wp2_with fail
   refine HA.out.mono ?_
   rintro e w1 ⟨rfl, hr, hk⟩
   have HR := hid hr
   have HK := hid hk
   clear hr hk hq
   go_wp2
   go_end0
   exact ⟨rfl, v, HR.out, kept_none HK.out, Moved.refl _ _⟩
theorem wnum4_any (b : Nat) (v : Value) (lim : Int) (l : List UInt8) (er : Int) (n : Int) (w : World) (h : WrAt w b v lim l er)
   (h0 : 0 ≤ lim) (h1 : lim ≤ 9223372036854775807) (hl : l.length + 8 ≤ 140737488355328) (hi : n ≤ 9223372036854775807) :
   Calls Tryz.prog 152 #[.pointer (some ⟨b, 0, none⟩), .int .i64 n, .int .i64 4] w fun e w' => e = .returned (.tuple #[]) ∧ ∃ v', WrAt w' b v' lim (wL lim l er 4 n) (wE lim l er 4 n) ∧ Kept b v.ownBlock w w' ∧ Moved w v v' := by
 unfold wL wE inR
 by_cases hn : 0 ≤ n ∧ n < 4294967296
 · have e : decide (0 ≤ n ∧ n < ((256 ^ 4 : Nat) : Int)) = true := by simp; omega
   rw [e]
   obtain ⟨m, rfl⟩ : ∃ m : Nat, n = m := ⟨n.toNat, by omega⟩
   by_cases hd : adm lim l.length er true 4 = 0
   · have := wnum4_yes b v lim l er m w h h0 h1 hl (by omega) hd
     simpa [hd] using this
   · have := wnum4_no b v lim l er m w h h0 h1 hl (by omega) _ rfl hd
     simpa [hd] using this
 · have e : decide (0 ≤ n ∧ n < ((256 ^ 4 : Nat) : Int)) = false := by simp; omega
   rw [e]
   have hd : ¬ adm lim l.length er false 4 = 0 := by unfold adm; split <;> simp_all
   have := wnum4_out b v lim l er n w h h0 h1 hl hi (by omega) _ rfl
   simpa [hd] using this
set_option maxHeartbeats 400000 in
theorem wbyte_any (b : Nat) (v : Value) (lim : Int) (l : List UInt8) (er : Int) (n : Int) (w : World) (h : WrAt w b v lim l er)
   (h0 : 0 ≤ lim) (h1 : lim ≤ 9223372036854775807) (hl : l.length + 8 ≤ 140737488355328) (hi : n ≤ 9223372036854775807) :
   Calls Tryz.prog 118 #[.pointer (some ⟨b, 0, none⟩), .int .i64 n] w fun e w' => e = .returned (.tuple #[]) ∧ ∃ v', WrAt w' b v' lim (wL lim l er 1 n) (wE lim l er 1 n) ∧ Kept b v.ownBlock w w' ∧ Moved w v v' := by
 have hc := hid (wnum1_any b v lim l er n w h h0 h1 hl hi)
 clear h
 go_enter Tryz.func118, Tryz.ntmps118
 go_wp2_with fail
 refine hc.out.mono ?_
 rintro e w1 ⟨rfl, hr⟩
 have HR := hid hr
 clear hr
 go_wp2
 go_end0
 exact ⟨rfl, HR.out⟩
set_option maxHeartbeats 400000 in
theorem wword_any (b : Nat) (v : Value) (lim : Int) (l : List UInt8) (er : Int) (n : Int) (w : World) (h : WrAt w b v lim l er)
   (h0 : 0 ≤ lim) (h1 : lim ≤ 9223372036854775807) (hl : l.length + 8 ≤ 140737488355328) (hi : n ≤ 9223372036854775807) :
   Calls Tryz.prog 172 #[.pointer (some ⟨b, 0, none⟩), .int .i64 n] w fun e w' => e = .returned (.tuple #[]) ∧ ∃ v', WrAt w' b v' lim (wL lim l er 2 n) (wE lim l er 2 n) ∧ Kept b v.ownBlock w w' ∧ Moved w v v' := by
 have hc := hid (wnum2_any b v lim l er n w h h0 h1 hl hi)
 clear h
 go_enter Tryz.func172, Tryz.ntmps172
 go_wp2_with fail
 refine hc.out.mono ?_
 rintro e w1 ⟨rfl, hr⟩
 have HR := hid hr
 clear hr
 go_wp2
 go_end0
 exact ⟨rfl, HR.out⟩
set_option maxHeartbeats 400000 in
theorem wlong_any (b : Nat) (v : Value) (lim : Int) (l : List UInt8) (er : Int) (n : Int) (w : World) (h : WrAt w b v lim l er)
   (h0 : 0 ≤ lim) (h1 : lim ≤ 9223372036854775807) (hl : l.length + 8 ≤ 140737488355328) (hi : n ≤ 9223372036854775807) :
   Calls Tryz.prog 119 #[.pointer (some ⟨b, 0, none⟩), .int .i64 n] w fun e w' => e = .returned (.tuple #[]) ∧ ∃ v', WrAt w' b v' lim (wL lim l er 4 n) (wE lim l er 4 n) ∧ Kept b v.ownBlock w w' ∧ Moved w v v' := by
 have hc := hid (wnum4_any b v lim l er n w h h0 h1 hl hi)
 clear h
 go_enter Tryz.func119, Tryz.ntmps119
 go_wp2_with fail
 refine hc.out.mono ?_
 rintro e w1 ⟨rfl, hr⟩
 have HR := hid hr
 clear hr
 go_wp2
 go_end0
 exact ⟨rfl, HR.out⟩
end
section
open Go.RowKit
end
section
open Go.RowKit
section
variable {w : World} {c : Nat} {v : Value} {lim : Int} {l : List UInt8} {er : Int}
end
end
section
set_option maxRecDepth 100000
open Go.RowKit
theorem append_str (w : World) (base : Nat) (ty : TypeId) (i : TypeInfo) (hi : Tryz.prog.info? 5 = some i) (hz : i.zero = some (.int .u8 0)) (hsize : i.size = 1) (hby : i.bytes = 1)
   (v : Value) (n : Nat) (xs : List Value) (hown : w.ownsRow base 5 1 v n xs) (s : ByteArray) (hbytes : n + s.size ≤ 140737488355328) (hbase : base ≤ w.heap.size) :
   ∃ v' w', (Builtin.append_ #[196, 9] ty #[v, .string s]).run Tryz.prog w = .ok v' w' ∧ w'.ownsRow base 5 1 v' (n + s.size) (xs ++ bC s.data.toList) ∧ w.grownBy w' v.ownBlock ∧ (v'.ownBlock = v.ownBlock ∨ v'.ownBlock = some w.heap.size) := by
 obtain ⟨v', w', hr, h2, h3, h4⟩ := Lib.run_append_own_string (P := Tryz.prog) w base 196 9 ty 5 i Tryz.underlying196 Tryz.underlying9 hi hz hsize hby v n xs hown s (by unfold maxLen; omega) hbytes hbase
 refine ⟨v', w', hr, h2, h3, ?_⟩
 have hsrc := Src.ofString (P := Tryz.prog) w (tx := 9) Tryz.underlying9 s
 rcases hown.2 with ⟨rfl, rfl⟩ | ⟨g, cap, cur, rfl, hbg, hg, hnc, hcm, hcs, htake⟩
 · by_cases h0 : s.size = 0
   · have := h4.2 ⟨rfl, h0⟩
     subst this
     exact .inl rfl
   · have hgr := run_append_grow_src (P := Tryz.prog) w 196 9 ty 5 i (.int .u8 0) Tryz.underlying196 hi hz none 0 0 [] (by simpa using run_firstCells_none w.drew i.size 0 0 0) (.string s) s.size (byteCells s) (by rw [hsize]; exact hsrc) (by omega) (by omega) (by
       rw [hby, Nat.zero_add, nextslicecap_zero (by omega)]; omega)
     rw [hr] at hgr
     cases hgr
     exact .inr rfl
 · by_cases hroom : n + s.size ≤ cap
   · have hcz : cur.size = cap := by simpa using hcs
     have hrm := run_append_room_src (P := Tryz.prog) w 196 9 ty 5 i Tryz.underlying196 hi g 0 n cap (.string s) s.size (byteCells s) (by rw [hsize]; exact hsrc) hroom
       (fun j hj => by rw [byteCells_length] at hj; rw [hsize]; simp [World.cell?, hg]; omega) (fun j hj => by simp [World.frozen?, hg])
     rw [hr] at hrm
     cases hrm
     exact .inl rfl
   · have hgr := run_append_grow_src (P := Tryz.prog) w 196 9 ty 5 i (.int .u8 0) Tryz.underlying196 hi hz (some ⟨g, 0, none⟩) n cap xs
       (by rw [hsize]; exact run_firstCells_some w.drew 1 n ⟨g, 0, none⟩ n cap xs hown.1 (fun j u hj => hown.cells (g := g) rfl j u hj)) (.string s) s.size (byteCells s) (by rw [hsize]; exact hsrc) (by omega) (by omega) (by
       rw [hby]
       have := nextslicecap_le (need := n + s.size) (old := cap) (by omega)
       omega)
     rw [hr] at hgr
     cases hgr
     exact .inr rfl
theorem wpList_append_str (w : World) {ops : Array Oper} {rest : List Oper} {o : Oper} {a : Act} {Q : Exit → Act → World → Prop} (hgd : o.guard = none) (sl x : Operand)
   (ho : o.op = .call { callee := .builtin .append, args := #[sl, x], argTypes := #[196, 9] })
   (base : Nat) (i : TypeInfo) (hi : Tryz.prog.info? 5 = some i) (hz : i.zero = some (.int .u8 0)) (hsize : i.size = 1) (hby : i.bytes = 1)
   (v : Value) (n : Nat) (xs : List Value) (hs : a.eval sl = v) (hown : w.ownsRow base 5 1 v n xs) (s : ByteArray) (hx : a.eval x = .string s)
   (hbytes : n + s.size ≤ 140737488355328) (hbase : base ≤ w.heap.size)
   (h : ∀ v' w', w'.ownsRow base 5 1 v' (n + s.size) (xs ++ bC s.data.toList) → w.grownBy w' v.ownBlock → (v'.ownBlock = v.ownBlock ∨ v'.ownBlock = some w.heap.size) → wpList Tryz.prog ops Q rest (a.put o.dst v') w') : wpList Tryz.prog ops Q (o :: rest) a w := by
 refine wpList_plain hgd fun K hK => ?_
 obtain ⟨v', w', hr, h2, h3, h4⟩ := append_str w base o.type i hi hz hsize hby v n xs hown s hbytes hbase
 unfold Oper.wp execOp
 simp only [ho, resolve, invoke, builtin, Sem.run_bind, Sem.run_pure, Result.andThen_ok, List.map_toArray, List.map_cons, List.map_nil, hs, hx, hr]
 exact hK _ _ (h v' w' h2 h3 h4)
def bE (lim : Int) (l : List UInt8) (er : Int) : Int := adm lim l.length er true 8
def bL (lim : Int) (l : List UInt8) (er : Int) (n : Nat) : List UInt8 := if bE lim l er = 0 then l ++ be 8 n else l
set_option maxHeartbeats 800000 in
theorem wbits_yes (b : Nat) (v : Value) (lim : Int) (l : List UInt8) (er : Int) (m : Nat) (w : World) (h : WrAt w b v lim l er)
   (h0 : 0 ≤ lim) (h1 : lim ≤ 9223372036854775807) (hl : l.length + 8 ≤ 140737488355328) (n1 : m < 18446744073709551616) (hd : adm lim l.length er true 8 = 0) :
   Calls Tryz.prog 121 #[.pointer (some ⟨b, 0, none⟩), .int .u64 m] w fun e w' => e = .returned (.tuple #[]) ∧ ∃ v', WrAt w' b v' lim (l ++ be 8 m) 0 ∧ Kept b v.ownBlock w w' ∧ Moved w v v' := by
 have ha := admits_any b v lim l er true 8 w h h0 h1 (by omega)
 have hdd : decide (adm lim l.length er true 8 = 0) = true := by simpa using hd
 rw [hdd, hd] at ha
 have HA := hid ha
 have HL := hid hl
 have HM := hid n1
 clear ha h hd hdd hl n1 h0 h1
 go_enter Tryz.func121, Tryz.ntmps121
 go_wp2_with fail
 refine HA.out.mono ?_
 rintro e w1 ⟨rfl, hr, hk⟩
 have HR := hid hr
 have HK := hid hk
 clear hr hk
 go_wp2_with fail
 refine (put_any b v lim l 0 m 8 w1 HR.out (by omega) HM.out HL.out).mono ?_
 rintro e w2 ⟨rfl, v', hv, hk2, hm⟩
 have HV := hid hv
 have HK2 := hid (And.intro hk2 hm)
 clear hv hk2 hm
 go_wp2
 go_end0
 exact ⟨rfl, v', HV.out, (kept_none HK.out).trans HK2.out.1 (.inl rfl), (Moved.refl w v).trans HK2.out.2 HK.out.size⟩
set_option maxHeartbeats 800000 in
theorem wbits_no (b : Nat) (v : Value) (lim : Int) (l : List UInt8) (er : Int) (m : Nat) (w : World) (h : WrAt w b v lim l er)
   (h0 : 0 ≤ lim) (h1 : lim ≤ 9223372036854775807) (hl : l.length + 8 ≤ 140737488355328) (E : Int) (hE : adm lim l.length er true 8 = E) (hd : E ≠ 0) :
   Calls Tryz.prog 121 #[.pointer (some ⟨b, 0, none⟩), .int .u64 m] w fun e w' => e = .returned (.tuple #[]) ∧ ∃ v', WrAt w' b v' lim l E ∧ Kept b v.ownBlock w w' ∧ Moved w v v' := by
 have ha := admits_any b v lim l er true 8 w h h0 h1 (by omega)
 have hdd : decide (E = 0) = false := by simpa using hd
 rw [hE, hdd] at ha
 have HA := hid ha
 clear ha h hE hd hdd hl h0 h1
 go_enter Tryz.func121, Tryz.ntmps121
 go_wp2_with fail
 refine HA.out.mono ?_
 rintro e w1 ⟨rfl, hr, hk⟩
 have HR := hid hr
 have HK := hid hk
 clear hr hk
 go_wp2
 go_end0
 exact ⟨rfl, v, HR.out, kept_none HK.out, Moved.refl _ _⟩
theorem wbits_any (b : Nat) (v : Value) (lim : Int) (l : List UInt8) (er : Int) (m : Nat) (w : World) (h : WrAt w b v lim l er)
   (h0 : 0 ≤ lim) (h1 : lim ≤ 9223372036854775807) (hl : l.length + 8 ≤ 140737488355328) (n1 : m < 18446744073709551616) :
   Calls Tryz.prog 121 #[.pointer (some ⟨b, 0, none⟩), .int .u64 m] w fun e w' => e = .returned (.tuple #[]) ∧ ∃ v', WrAt w' b v' lim (bL lim l er m) (bE lim l er) ∧ Kept b v.ownBlock w w' ∧ Moved w v v' := by
 unfold bL bE
 by_cases hd : adm lim l.length er true 8 = 0
 · simpa [hd] using wbits_yes b v lim l er m w h h0 h1 hl n1 hd
 · simpa [hd] using wbits_no b v lim l er m w h h0 h1 hl _ rfl hd
def xE (lim : Int) (l : List UInt8) (er : Int) (s : ByteArray) : Int := adm lim l.length er (decide (s.size ≤ 65535)) (2 + s.size)
def xL (lim : Int) (l : List UInt8) (er : Int) (s : ByteArray) : List UInt8 := if xE lim l er s = 0 then l ++ (be 2 s.size ++ s.data.toList) else l
theorem put_text {w1 w2 : World} {b : Nat} {v v' : Value} {lim : Int} {L : List UInt8} {er : Int} {s : ByteArray} (hR : WrAt w1 b v lim L er)
   (hown : w2.ownsRow (b + 1) 5 1 v' (L.length + s.size) (bC L ++ bC s.data.toList)) (hgrow : w1.grownBy w2 v.ownBlock) (hat : v'.ownBlock = v.ownBlock ∨ v'.ownBlock = some w1.heap.size) :
   WrAt (w2.setCell ⟨b, 1, none⟩ v') b v' lim (L ++ s.data.toList) er ∧ Kept b v.ownBlock w1 (w2.setCell ⟨b, 1, none⟩ v') ∧ Moved w1 v v' := by
 have hbv : some b ≠ v.ownBlock := fun e => by have := (hR.own.lt b e.symm).1; omega
 have hb1 : w2.heap[b]? = some (.cells #[.int .i64 lim, v, .int .i64 er] 202 (0, 0)) := by
   rw [hgrow.block b hR.lt hbv]
   exact hR.blk
 refine ⟨WrAt.bytes hb1 ?_, ?_, ?_⟩
 · rw [bC_app, List.length_append, Array.length_toList]; exact hown
 · exact ((Kept.refl b v.ownBlock w1).grown hgrow (.inl rfl)).setCell _ _
 · rcases hat with h | h
   · exact .inl h
   · exact .inr ⟨_, h, Nat.le_refl _⟩
set_option maxHeartbeats 1600000 in
theorem wtext_yes (b : Nat) (v : Value) (lim : Int) (l : List UInt8) (er : Int) (s : ByteArray) (w : World) (h : WrAt w b v lim l er)
   (h0 : 0 ≤ lim) (h1 : lim ≤ 9223372036854775807) (hs : s.size ≤ 65535) (hl : l.length + 8 ≤ 140737488355328) (hl2 : l.length + (2 + s.size) ≤ 140737488355328) (hd : adm lim l.length er true (2 + s.size) = 0) :
   Calls Tryz.prog 120 #[.pointer (some ⟨b, 0, none⟩), .string s] w fun e w' => e = .returned (.tuple #[]) ∧ ∃ v', WrAt w' b v' lim (l ++ (be 2 s.size ++ s.data.toList)) 0 ∧ Kept b v.ownBlock w w' ∧ Moved w v v' := by
 obtain ⟨i0, hi0, hz0, hz1, hz2⟩ := info_parts Tryz.info5
 have ha := admits_any b v lim l er true (2 + s.size) w h h0 h1 (by omega)
 have hdd : decide (adm lim l.length er true (2 + s.size) = 0) = true := by simpa using hd
 rw [hdd, hd] at ha
 have HA := hid ha
 have HL := hid hl
 have HL2 := hid hl2
 have hsi : (s.size : Int) ≤ 65535 := by omega
 clear ha h hd hdd hl hl2 h0 h1 hs
 go_enter Tryz.func120, Tryz.ntmps120
 go_wp2_with fail
 refine HA.out.mono ?_
 rintro e w1 ⟨rfl, hr, hk⟩
 have HR := hid hr
 have HK := hid hk
 clear hr hk
 go_wp2_with fail
 refine (put_any b v lim l 0 s.size 2 w1 HR.out (by omega) (by omega) HL.out).mono ?_
 rintro e w2 ⟨rfl, v2, hv, hk2, hm⟩
 have HV := hid hv
 have HK2 := hid (And.intro ((kept_none HK.out).trans hk2 (.inl rfl)) ((Moved.refl w v).trans hm HK.out.size))
 have c1 := hv.c1
 have f1 := hv.fr 1
 have hlt := hv.lt
 have hbv : some b ≠ v2.ownBlock := fun e => by have := (hv.own.lt b e.symm).1; omega
 have ho := hv.own
 have hb2 : (l ++ be 2 s.size).length + s.size ≤ 140737488355328 := by rw [List.length_append, be_len]; have := HL2.out; omega
 clear hv hk2 hm
 go_wp2_with (at_builtin; refine wpList_append_str _ rfl _ _ rfl (b + 1) i0 hi0 hz0 hz1 hz2 v2 (l ++ be 2 s.size).length (bC (l ++ be 2 s.size)) rfl ho s rfl hb2 (by omega) ?_)
 intro v3 w3 hown3 hgrow hat
 rw [← List.length_append] at hown3
 have HS := hid (put_text HV.out hown3 hgrow hat)
 have cz : w3.cell? ⟨b, 1, none⟩ = some v2 := (hgrow.cell_far ⟨b, 1, none⟩ hlt hbv).trans c1
 have fz : w3.frozen? ⟨b, 1, none⟩ = false := (hgrow.frozen_far ⟨b, 1, none⟩ hlt hbv).trans f1
 obtain ⟨av, nv, capv, hv3⟩ : ∃ av nv capv, v3 = .slice av nv capv := by
   rcases hown3.2 with ⟨hv, _⟩ | ⟨g, cap, cur, hv, _⟩
   · exact ⟨_, _, _, hv⟩
   · exact ⟨_, _, _, hv⟩
 rw [hv3] at HS ⊢
 clear hown3 hgrow hat ho hv3
 go_wp2
 go_end0
 refine ⟨rfl, _, ?_, HK2.out.1.trans HS.out.2.1 HK2.out.2, HK2.out.2.trans HS.out.2.2 HK2.out.1.size⟩
 rw [← List.append_assoc]
 exact HS.out.1
set_option maxHeartbeats 800000 in
theorem wtext_no (b : Nat) (v : Value) (lim : Int) (l : List UInt8) (er : Int) (s : ByteArray) (w : World) (h : WrAt w b v lim l er)
   (h0 : 0 ≤ lim) (h1 : lim ≤ 9223372036854775807) (hs : s.size ≤ 9223372036854775805) (hl : l.length + 8 ≤ 140737488355328) (E : Int) (r : Bool) (hr : decide ((s.size : Int) ≤ 65535) = r) (hE : adm lim l.length er r (2 + s.size) = E) (hd : E ≠ 0) :
   Calls Tryz.prog 120 #[.pointer (some ⟨b, 0, none⟩), .string s] w fun e w' => e = .returned (.tuple #[]) ∧ ∃ v', WrAt w' b v' lim l E ∧ Kept b v.ownBlock w w' ∧ Moved w v v' := by
 have ha := admits_any b v lim l er r (2 + s.size) w h h0 h1 (by omega)
 have hdd : decide (E = 0) = false := by simpa using hd
 rw [hE, hdd] at ha
 have HA := hid ha
 clear ha h hE hd hdd hl h0 h1
 go_enter Tryz.func120, Tryz.ntmps120
 go_wp2_with fail
 refine HA.out.mono ?_
 rintro e w1 ⟨rfl, hr, hk⟩
 have HR := hid hr
 have HK := hid hk
 clear hr hk
 go_wp2
 go_end0
 exact ⟨rfl, v, HR.out, kept_none HK.out, Moved.refl _ _⟩
theorem wtext_any (b : Nat) (v : Value) (lim : Int) (l : List UInt8) (er : Int) (s : ByteArray) (w : World) (h : WrAt w b v lim l er)
   (h0 : 0 ≤ lim) (h1 : lim ≤ 9223372036854775807) (hs : s.size ≤ 9223372036854775805) (hl : l.length + 8 ≤ 140737488355328) (hl2 : xE lim l er s = 0 → l.length + (2 + s.size) ≤ 140737488355328) :
   Calls Tryz.prog 120 #[.pointer (some ⟨b, 0, none⟩), .string s] w fun e w' => e = .returned (.tuple #[]) ∧ ∃ v', WrAt w' b v' lim (xL lim l er s) (xE lim l er s) ∧ Kept b v.ownBlock w w' ∧ Moved w v v' := by
 unfold xL
 by_cases hd : xE lim l er s = 0
 · have hs2 : s.size ≤ 65535 := by
     by_cases h2 : s.size ≤ 65535
     · exact h2
     · exfalso
       unfold xE adm at hd
       simp [h2] at hd
       split at hd <;> simp_all
   have hd2 : adm lim l.length er true (2 + s.size) = 0 := by
     unfold xE at hd
     simpa [hs2] using hd
   rw [if_pos hd, hd]
   exact wtext_yes b v lim l er s w h h0 h1 hs2 hl (hl2 hd) hd2
 · rw [if_neg hd]
   exact wtext_no b v lim l er s w h h0 h1 hs hl _ (decide (s.size ≤ 65535)) (by simp; omega) rfl hd
end
section
open Go.RowKit
end
section
open Go.RowKit
theorem inR_yes (s n : Nat) (hn : n < 256 ^ s) : inR s (n : Int) = true := by
 unfold inR
 exact decide_eq_true ⟨Int.natCast_nonneg _, by exact_mod_cast hn⟩
def memBytes (l : List Int) : List UInt8 := l.flatMap fun x => be 1 x.toNat
def confB (ep : Int) (l : List Int) : List UInt8 := be 1 67 ++ be 2 ep.toNat ++ be 1 l.length ++ memBytes l
theorem memBytes_len (l : List Int) : (memBytes l).length = l.length := by
 induction l with
 | nil => rfl
 | cons x l ih =>
   show (be 1 x.toNat ++ memBytes l).length = _
   rw [List.length_append, be_len, ih, List.length_cons]
   omega
theorem memBytes_snoc (l : List Int) (j : Nat) (hj : j < l.length) : memBytes (l.take (j + 1)) = memBytes (l.take j) ++ be 1 (l.getD j 0).toNat := by
 rw [List.take_add_one, getD_some hj, memBytes, List.flatMap_append]
 simp [memBytes]
def textC (ep : Int) (l : List Int) : ByteArray := if rightC ep l then ⟨(confB ep l).toArray⟩ else ⟨#[]⟩
def textE (ep : Int) (l : List Int) : Int := if rightC ep l then 0 else 1
end
end Go.Proofs.YtoepppkadpjonaaGreat
