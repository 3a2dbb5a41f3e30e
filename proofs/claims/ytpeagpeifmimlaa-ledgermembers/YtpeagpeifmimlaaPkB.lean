/- The contracts of package pack's writers of eight bytes and of texts. -/
import Derived.Test.YtpeagpeifmimlaaPkN
import Derived.Lib.AppendStr
import Derived.Deep.AppendSrc
namespace Go.Proofs.Ytpeagpeifmimlaa
open Go.RowKit

/-- 'append(b, s...)' of a string onto a slice of bytes that the call owns: where the new slice lies. -/
theorem append_str (w : World) (base : Nat) (ty : TypeId) (i : TypeInfo) (hi : Try.prog.info? 5 = some i) (hz : i.zero = some (.int .u8 0)) (hsize : i.size = 1) (hby : i.bytes = 1)
    (v : Value) (n : Nat) (xs : List Value) (hown : w.ownsRow base 5 1 v n xs) (s : ByteArray) (hbytes : n + s.size ≤ 140737488355328) (hbase : base ≤ w.heap.size) :
    ∃ v' w', (Builtin.append_ #[99, 9] ty #[v, .string s]).run Try.prog w = .ok v' w' ∧ w'.ownsRow base 5 1 v' (n + s.size) (xs ++ bC s.data.toList) ∧ w.grownBy w' v.ownBlock ∧ (v'.ownBlock = v.ownBlock ∨ v'.ownBlock = some w.heap.size) := by
  obtain ⟨v', w', hr, h2, h3, h4⟩ := Lib.run_append_own_string (P := Try.prog) w base 99 9 ty 5 i Try.underlying99 Try.underlying9 hi hz hsize hby v n xs hown s (by unfold maxLen; omega) hbytes hbase
  refine ⟨v', w', hr, h2, h3, ?_⟩
  have hsrc := Src.ofString (P := Try.prog) w (tx := 9) Try.underlying9 s
  rcases hown.2 with ⟨rfl, rfl⟩ | ⟨g, cap, cur, rfl, hbg, hg, hnc, hcm, hcs, htake⟩
  · by_cases h0 : s.size = 0
    · have := h4.2 ⟨rfl, h0⟩
      subst this
      exact .inl rfl
    · have hgr := run_append_grow_src (P := Try.prog) w 99 9 ty 5 i (.int .u8 0) Try.underlying99 hi hz none 0 0 [] (by simpa using run_firstCells_none w.drew i.size 0 0 0) (.string s) s.size (byteCells s) (by rw [hsize]; exact hsrc) (by omega) (by omega) (by
        rw [hby, Nat.zero_add, nextslicecap_zero (by omega)]; omega)
      rw [hr] at hgr
      cases hgr
      exact .inr rfl
  · by_cases hroom : n + s.size ≤ cap
    · have hcz : cur.size = cap := by simpa using hcs
      have hrm := run_append_room_src (P := Try.prog) w 99 9 ty 5 i Try.underlying99 hi g 0 n cap (.string s) s.size (byteCells s) (by rw [hsize]; exact hsrc) hroom
        (fun j hj => by rw [byteCells_length] at hj; rw [hsize]; simp [World.cell?, hg]; omega) (fun j hj => by simp [World.frozen?, hg])
      rw [hr] at hrm
      cases hrm
      exact .inl rfl
    · have hgr := run_append_grow_src (P := Try.prog) w 99 9 ty 5 i (.int .u8 0) Try.underlying99 hi hz (some ⟨g, 0, none⟩) n cap xs
        (by rw [hsize]; exact run_firstCells_some w.drew 1 n ⟨g, 0, none⟩ n cap xs hown.1 (fun j u hj => hown.cells (g := g) rfl j u hj)) (.string s) s.size (byteCells s) (by rw [hsize]; exact hsrc) (by omega) (by omega) (by
        rw [hby]
        have := nextslicecap_le (need := n + s.size) (old := cap) (by omega)
        omega)
      rw [hr] at hgr
      cases hgr
      exact .inr rfl

theorem wpList_append_str (w : World) {ops : Array Oper} {rest : List Oper} {o : Oper} {a : Act} {Q : Exit → Act → World → Prop} (hgd : o.guard = none) (sl x : Operand)
    (ho : o.op = .call { callee := .builtin .append, args := #[sl, x], argTypes := #[99, 9] })
    (base : Nat) (i : TypeInfo) (hi : Try.prog.info? 5 = some i) (hz : i.zero = some (.int .u8 0)) (hsize : i.size = 1) (hby : i.bytes = 1)
    (v : Value) (n : Nat) (xs : List Value) (hs : a.eval sl = v) (hown : w.ownsRow base 5 1 v n xs) (s : ByteArray) (hx : a.eval x = .string s)
    (hbytes : n + s.size ≤ 140737488355328) (hbase : base ≤ w.heap.size)
    (h : ∀ v' w', w'.ownsRow base 5 1 v' (n + s.size) (xs ++ bC s.data.toList) → w.grownBy w' v.ownBlock → (v'.ownBlock = v.ownBlock ∨ v'.ownBlock = some w.heap.size) → wpList Try.prog ops Q rest (a.put o.dst v') w') : wpList Try.prog ops Q (o :: rest) a w := by
  refine wpList_plain hgd fun K hK => ?_
  obtain ⟨v', w', hr, h2, h3, h4⟩ := append_str w base o.type i hi hz hsize hby v n xs hown s hbytes hbase
  unfold Oper.wp execOp
  simp only [ho, resolve, invoke, builtin, Sem.run_bind, Sem.run_pure, Result.andThen_ok, List.map_toArray, List.map_cons, List.map_nil, hs, hx, hr]
  exact hK _ _ (h v' w' h2 h3 h4)

/-- The error behind eight bytes; the bytes. -/
def bE (lim : Int) (l : List UInt8) (er : Int) : Int := adm lim l.length er true 8
def bL (lim : Int) (l : List UInt8) (er : Int) (n : Nat) : List UInt8 := if bE lim l er = 0 then l ++ be 8 n else l

/-- The error behind a text; the bytes. -/
def xE (lim : Int) (l : List UInt8) (er : Int) (s : ByteArray) : Int := adm lim l.length er (decide (s.size ≤ 65535)) (2 + s.size)
def xL (lim : Int) (l : List UInt8) (er : Int) (s : ByteArray) : List UInt8 := if xE lim l er s = 0 then l ++ (be 2 s.size ++ s.data.toList) else l

end Go.Proofs.Ytpeagpeifmimlaa
