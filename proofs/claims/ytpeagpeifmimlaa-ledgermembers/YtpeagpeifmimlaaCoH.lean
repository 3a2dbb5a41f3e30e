/- What the document reads as a configuration. -/
import Derived.Test.YtpeagpeifmimlaaCoG
import Derived.Test.YtpeagpeifmimlaaMrR
import Derived.Test.YtpeagpeifmimlaaGnI
import Derived.Deep.RegionLaw
namespace Go.Proofs.Ytpeagpeifmimlaa
open Go.RowKit

/-- A reader behind so many bytes read one by one; the numbers read. -/
def rdS (s : ByteArray) (sh : Bool) : Nat → ByteArray × Bool
  | 0 => (s, sh)
  | k + 1 => (rS (rdS s sh k).1 (rdS s sh k).2 1, rB (rdS s sh k).1 (rdS s sh k).2 1)
def rdL (s : ByteArray) (sh : Bool) : Nat → List Int
  | 0 => []
  | k + 1 => rdL s sh k ++ [(rN (rdS s sh k).1 (rdS s sh k).2 1 : Int)]
theorem rdL_len (s : ByteArray) (sh : Bool) : ∀ k, (rdL s sh k).length = k
  | 0 => rfl
  | k + 1 => by rw [rdL, List.length_append, rdL_len s sh k]; rfl
/-- What is read: the head, the epoch, how many, and each. -/
def cH (t : ByteArray) : Nat := rN t false 1
def cS1 (t : ByteArray) : ByteArray × Bool := (rS t false 1, rB t false 1)
def cE (t : ByteArray) : Nat := rN (cS1 t).1 (cS1 t).2 2
def cS2 (t : ByteArray) : ByteArray × Bool := (rS (cS1 t).1 (cS1 t).2 2, rB (cS1 t).1 (cS1 t).2 2)
def cN (t : ByteArray) : Nat := rN (cS2 t).1 (cS2 t).2 1
def cS3 (t : ByteArray) : ByteArray × Bool := (rS (cS2 t).1 (cS2 t).2 1, rB (cS2 t).1 (cS2 t).2 1)
def cM (t : ByteArray) : List Int := rdL (cS3 t).1 (cS3 t).2 (cN t)
def cF (t : ByteArray) : ByteArray × Bool := rdS (cS3 t).1 (cS3 t).2 (cN t)
def readB (t : ByteArray) : Bool := decide (cH t = 67) && (decide (endOf (cF t).1 (cF t).2 = 0) && rightC (cE t : Int) (cM t))
section
variable {o : Oper} {a : Act} {w : World} {K : Act → World → Prop} {Q : Exit → Act → World → Prop}
/-- A number behind one's own numbers. -/
theorem owp_app_I (sl x : Operand) (ho : o.op = .call { callee := .builtin .append, args := #[sl, x], argTypes := #[22, 22] }) (B : Nat) (v : Value) (n : Nat) (l : List Int)
    (hs : a.eval sl = v) (hO : w.ownsRow B 3 1 v n (iC l)) (g : Nat) (y : Int) (hx : a.eval x = .slice (some ⟨g, 0, none⟩) 1 1) (hc : w.cell? ⟨g, 0, none⟩ = some (.int .i64 y)) (hB : B ≤ w.heap.size) (hlen : n + 1 ≤ 17592186044416)
    (h : ∀ v' w', Hid (w'.ownsRow B 3 1 v' (n + 1) (iC (l ++ [y]))) → Hid (w.grownBy w' v.ownBlock) → K (a.put o.dst v') w') : o.wp Try.prog a w K Q := by
  obtain ⟨i0, hi0, hz0, hz1, hz2⟩ := info_parts Try.info3
  obtain ⟨v', w', hr, h2, h3, h4⟩ := run_append_own (P := Try.prog) w B 22 o.type 3 i0 (.int .i64 0) 1 8 Try.underlying22 hi0 hz0 hz1 hz2 rfl (by decide) v n (iC l) hO ⟨g, 0, none⟩ 1 1 [.int .i64 y] rfl (fun j u hj => by
    match j, hj with
    | 0, hj => simp at hj; subst hj; simpa [Addr.add] using hc) (by simp [Value.oneCell']) (by unfold maxLen; omega) (by omega) hB
  refine owp_value (v := v') (w' := w') ?_ (h v' w' (by rw [iC_app]; exact h2) h3)
  simp [execOp, ho, resolve, invoke, builtin, hs, hx, hr, Result.andThen]
end
def readZ (t : ByteArray) : Int := if readB t then (cE t : Int) else 0
def readM (t : ByteArray) : List Int := if readB t then cM t else []
def readE (t : ByteArray) : Int := if readB t then 0 else 5
theorem own_kept {w w' : World} {B r : Nat} {v : Value} {n : Nat} {xs : List Value} {e : TypeId} (h : w.ownsRow B e 1 v n xs) (k : Kept r none w w') (hr : r < B) : w'.ownsRow B e 1 v n xs := by
  refine ⟨h.1, ?_⟩
  rcases h.2 with hn | ⟨g, cap, cur, hv, hB, hh, hx⟩
  · exact .inl hn
  · exact .inr ⟨g, cap, cur, hv, hB, (k.block g (lt_of_blk hh) (by omega) (by simp)).trans hh, hx⟩
theorem own_low {w : World} {B B' : Nat} {e : TypeId} {z : Nat} {v : Value} {n : Nat} {xs : List Value} (h : w.ownsRow B e z v n xs) (hB : B' ≤ B) : w.ownsRow B' e z v n xs := by
  refine ⟨h.1, ?_⟩
  rcases h.2 with hn | ⟨g, cap, cur, hv, hb, hx⟩
  · exact .inl hn
  · exact .inr ⟨g, cap, cur, hv, Nat.le_trans hB hb, hx⟩
theorem ret_cell2 {f : Func} {a : Act} {w : World} {Q : Ending → World → Prop} {s s2 : Nat} {t : TypeId} {ad : Addr} {v v2 : Value} (hr : f.results = #[.cell s t, .tmp s2]) (hs : a.tmps.getD s undef = .pointer (some ad)) (hl : (loadVar t ad).run Try.prog w = .ok v w) (h2 : a.tmps.getD s2 undef = v2) (hd : a.defers = [])
    (h : Q (.returned (.tuple #[v, v2])) w) : bodyPost Try.prog f Q .ret a w := by
  refine bodyPost_ret (v := .tuple #[v, v2]) ?_ hd h
  have h1 : a.tmps.getD s undef = .pointer (some ad) := hs
  simp [results, hr, -Array.getD_eq_getD_getElem?, h1, h2, asAddr, hl]
theorem load_conf (w : World) (b : Nat) (x y : Value) (c0 : w.cell? ⟨b, 0, none⟩ = some x) (c1 : w.cell? ⟨b, 1, none⟩ = some y) : (loadVar 24 ⟨b, 0, none⟩).run Try.prog w = .ok (.agg #[x, y]) w := by
  go_simp
theorem res_set {w : World} {b : Nat} {p q x y : Value} {T : TypeId} (h : w.heap[b]? = some (.cells #[p, q] T (0, 0))) : ((w.setCell ⟨b, 0, none⟩ x).setCell ⟨b, 1, none⟩ y).heap[b]? = some (.cells #[x, y] T (0, 0)) := by
  have h1 : (w.setCell ⟨b, 0, none⟩ x).heap[b]? = some (.cells #[x, q] T (0, 0)) := (blk_set h 0 x).trans (by simp)
  exact (blk_set h1 1 y).trans (by simp)
theorem own_setCell {w : World} {B : Nat} {v : Value} {n : Nat} {xs : List Value} {e : TypeId} (h : w.ownsRow B e 1 v n xs) (r o : Nat) (x : Value) (hr : r < B) : (w.setCell ⟨r, o, none⟩ x).ownsRow B e 1 v n xs := by
  refine ⟨h.1, ?_⟩
  rcases h.2 with hn | ⟨g, cap, cur, hv, hB, hh, hx⟩
  · exact .inl hn
  · exact .inr ⟨g, cap, cur, hv, hB, (Below.heap_setCell _ _ _ _ (by show ¬ g = r; omega)).trans hh, hx⟩
theorem own_ints {w : World} {B : Nat} {v : Value} {l : List Int} (h : w.ownsRow B 3 1 v l.length (iC l)) : ∃ ad cap, v = .slice ad l.length cap ∧ IntsIn w ad l := by
  rcases h.2 with ⟨hv, h0⟩ | ⟨g, cap, cur, hv, hB, hh, hx⟩
  · exact ⟨none, 0, by rw [hv, h0], .inl (List.eq_nil_of_length_eq_zero h0)⟩
  · refine ⟨_, cap, hv, .inr ⟨g, 0, rfl, lt_of_blk hh, fun j z hj => ?_⟩⟩
    subst hv
    have := h.cells (g := g) rfl j _ (iC_get l j z hj)
    rwa [Addr.add_lit] at this
set_option maxRecDepth 100000 in
set_option maxHeartbeats 1600000 in
/-- The same configurations are the same. -/
theorem vsame_yes (ep : Int) (a1 a2 : Option Addr) (n c1 c2 : Nat) (l : List Int) (hn : l.length = n) (hm : n ≤ maxLen) (w : World) (h1 : IntsIn w a1 l) (h2 : IntsIn w a2 l) :
    Calls Try.prog 22 #[.agg #[.int .i64 ep, .slice a1 n c1], .agg #[.int .i64 ep, .slice a2 n c2]] w fun e w' => e = .returned (.bool true) ∧ Below w.heap.size w w' := by
  have HC : Hid (∀ u : World, IntsIn u a1 l → IntsIn u a2 l → Calls Try.prog 17 #[.slice a1 n c1, .slice a2 n c2] u fun e w' => e = .returned (.bool true) ∧ Below u.heap.size u w') := hid (fun u k1 k2 => sameInts_any a1 a2 n c1 c2 l hn hm u k1 k2)
  have HI := hid (And.intro h1 h2)
  clear h1 h2 hn hm
  go_enter Try.func22, Try.ntmps22
  go_wp2_with (go_at_call 17; refine (HC.out _ (by exact (HI.out.1.alloc _).alloc _) (by exact (HI.out.2.alloc _).alloc _)).mono ?_; rintro e w1 ⟨rfl, hb1⟩; have H1 := hid ((((Below.refl w.heap.size w).alloc (Nat.le_refl _) _).alloc (by simp) _).trans (hb1.mono (by simp; omega))); clear hb1)
  go_ret
  exact ⟨rfl, H1.out⟩
end Go.Proofs.Ytpeagpeifmimlaa
