/- The contract of package pack's writer of bytes ('put'). -/
import Derived.Test.YtecidbdbdnnglaaGreatPkWM
import Derived.Deep.RegionLaw
namespace Go.Proofs.YtecidbdbdnnglaaGreat
open Go.RowKit
attribute [local go_sem ↓] Go.wp_at_zero Go.wp_at_succ

/-- A slice of the writer's own lies where it lay, or in a block that is new. -/
def Moved (w : World) (v v' : Value) : Prop := v'.ownBlock = v.ownBlock ∨ ∃ g, v'.ownBlock = some g ∧ w.heap.size ≤ g
theorem Moved.refl (w : World) (v : Value) : Moved w v v := .inl rfl
theorem Moved.trans {w w' : World} {a b c : Value} (h : Moved w a b) (k : Moved w' b c) (hs : w.heap.size ≤ w'.heap.size) : Moved w a c := by
  rcases k with k | ⟨g, k, hg⟩
  · rcases h with h | ⟨g, h, hg⟩
    · exact .inl (k.trans h)
    · exact .inr ⟨g, k.trans h, hg⟩
  · exact .inr ⟨g, k, by omega⟩

theorem WrAt.bytes {w : World} {b : Nat} {v : Value} {lim : Int} {er : Int} (h : w.heap[b]? = some (.cells #[.int .i64 lim, v, .int .i64 er] 130 (0, 0))) {v' : Value} {l' : List UInt8} (ho : w.ownsRow (b + 1) 5 1 v' l'.length (bC l')) :
    WrAt (w.setCell ⟨b, 1, none⟩ v') b v' lim l' er :=
  ⟨by simp [World.setCell, Array.getElem?_modify, h], ownsRow_setCell_below ho (by show b < b + 1; omega) _⟩

/-- What an append to the writer's bytes, and the store behind it, leave. -/
theorem put_step {wr w1 : World} {b : Nat} {v : Value} {lim : Int} {L C : List UInt8} {er : Int} {o : Obj} {gg cap N : Nat} {news : List Value} (hR : WrAt wr b v lim L er)
    (hn : news = bC C) (hN : N = L.length + C.length)
    (hown1 : w1.ownsRow (b + 1) 5 1 (.slice (some ⟨gg, 0, none⟩) N cap) N (bC L ++ news)) (hgrow : (wr.alloc o).drew.grownBy w1 v.ownBlock) (hat : v.ownBlock = some gg ∨ gg = wr.heap.size + 1) :
    WrAt (w1.setCell ⟨b, 1, none⟩ (.slice (some ⟨gg, 0, none⟩) N cap)) b (.slice (some ⟨gg, 0, none⟩) N cap) lim (L ++ C) er ∧ Kept b v.ownBlock wr (w1.setCell ⟨b, 1, none⟩ (.slice (some ⟨gg, 0, none⟩) N cap)) ∧ Moved wr v (.slice (some ⟨gg, 0, none⟩) N cap) := by
  have hlt := hR.lt
  have hbv : some b ≠ v.ownBlock := fun e => by have := (hR.own.lt b e.symm).1; omega
  subst hn
  have hb1 : w1.heap[b]? = some (.cells #[.int .i64 lim, v, .int .i64 er] 130 (0, 0)) := by
    rw [hgrow.block b (by simp; omega) hbv]
    exact (Below.heap_alloc wr _ b hlt).trans hR.blk
  refine ⟨WrAt.bytes hb1 ?_, ?_, ?_⟩
  · rw [bC_app, List.length_append, ← hN]; exact hown1
  · exact ((((Kept.refl b v.ownBlock wr).alloc _).drew).grown hgrow (.inl rfl)).setCell _ _
  · rcases hat with h | h
    · exact .inl h.symm
    · exact .inr ⟨gg, rfl, by omega⟩

/-- The byte of place j, with all that lies ahead of it. -/
def upto (n j : Nat) : Nat := n / 256 ^ j
theorem upto_byte (n j : Nat) : IntKind.u8.wrap (upto n j : Int) = ((UInt8.ofNat (n / 256 ^ j)).toNat : Int) := by
  have e : (UInt8.ofNat (n / 256 ^ j)).toNat = n / 256 ^ j % 256 := by simp
  rw [e, IntKind.wrap_u8', upto]
  omega
theorem shr_run (n j : Nat) (hj : j ≤ 7) (w : World) : Sem.run Tryz.prog (Op.shift BinOp.shr IntKind.u64 (n : Int) IntKind.i64 (IntKind.i64.wrap (8 * (j : Int)))) w = .ok (.int .u64 (upto n j : Int)) w := by
  have e : IntKind.i64.wrap (8 * (j : Int)) = ((8 * j : Nat) : Int) := by rw [IntKind.wrap_i64]; omega
  rw [e, shift_shr_any _ _ _ _ (Int.natCast_nonneg _)]
  have e2 : min ((8 * j : Nat) : Int).toNat IntKind.u64.bits = 8 * j := by simp [IntKind.bits]; omega
  have e3 : ((2 : Int) ^ (8 * j)) = ((256 ^ j : Nat) : Int) := by rw [show (256 : Nat) = 2 ^ 8 from rfl, ← Nat.pow_mul]; simp
  rw [e2, upto, e3]
  simp

set_option maxRecDepth 100000 in
set_option maxHeartbeats 1600000 in
theorem put_any (b : Nat) (v0 : Value) (lim : Int) (l : List UInt8) (er : Int) (n size : Nat) (w : World) (h : WrAt w b v0 lim l er) (hs : size ≤ 8) (hn : n < 18446744073709551616) (hl : l.length + 8 ≤ 140737488355328) :
    Calls Tryz.prog 94 #[.pointer (some ⟨b, 0, none⟩), .int .u64 n, .int .i64 size] w fun e w' => e = .returned (.tuple #[]) ∧ ∃ v', WrAt w' b v' lim (l ++ be size n) er ∧ Kept b v0.ownBlock w w' ∧ Moved w v0 v' := by
  obtain ⟨i0, hi0, hz0, hz1, hz2⟩ := info_parts Tryz.info5
  have HN : Hid (n < 18446744073709551616) := hn
  have HW : Hid (WrAt w b v0 lim l er) := h
  clear hn h
  go_enter Tryz.func94, Tryz.ntmps94
  go_wp2
  go_loopw [6] (fun i wr => ∃ (k : Nat) (P : List UInt8) (v : Value), k ≤ size ∧ i = .int .i64 ((k : Int) - 1) ∧ P ++ be k n = be size n ∧ WrAt wr b v lim (l ++ P) er ∧ Kept b v0.ownBlock w wr ∧ Moved w v0 v)
    (fun i _ => (intOf i + 1).toNat)
  case atStart => exact ⟨size, [], v0, Nat.le_refl _, rfl, rfl, by simpa using HW.out, Kept.refl _ _ _, Moved.refl _ _⟩
  case round =>
    obtain ⟨k, P, v, hk, rfl, hP, hwr, hkept, hmov⟩ := hrel
    have hlt := hwr.lt
    have HP : Hid (P ++ be k n = be size n) := hP
    have HR : Hid (WrAt wr b v lim (l ++ P) er) := hwr
    have HK : Hid (Kept b v0.ownBlock w wr ∧ Moved w v0 v) := ⟨hkept, hmov⟩
    have hPl : P.length + k = size := by have := congrArg List.length hP; simpa [be_len] using this
    have c1 := hwr.c1
    have f1 := hwr.fr 1
    clear hP hwr hkept hmov
    cases k with
    | zero =>
      go_wp2
      go_end0
      refine ⟨rfl, v, ?_, HK.out⟩
      have e : P = be size n := by simpa [be] using HP.out
      rw [← e]; exact HR.out
    | succ j =>
      have ej : (((j + 1 : Nat) : Int) - 1) = (j : Int) := by omega
      rw [ej]
      clear ej
      have hj0 : (0 : Int) ≤ (j : Int) := Int.natCast_nonneg _
      have hj7 : (j : Int) ≤ 7 := by omega
      have hsh := shr_run n j (by omega)
      have ho := HR.out.own
      have hbv : some b ≠ v.ownBlock := fun e => by have := (ho.lt b e.symm).1; omega
      have hlen : (l ++ P).length + 1 ≤ 140737488355328 := by simp; omega
      go_wp2_with fail
      go_region_law
        ((refine step_append_lies _ (by rfl) _ _ _ (by rfl) (b + 1) 5 i0 _ 1 1 Tryz.underlying124 hi0 hz0 hz1 hz2 rfl (by omega) v (l ++ P).length (bC (l ++ P)) (by rfl) ((ho.alloc _).drew)
            ⟨wr.heap.size, 0, none⟩ 1 1 [.int .u8 (IntKind.u8.wrap (upto n j : Int))] (by rfl) (by rfl) (World.news_of_block (cs := #[.int .u8 (IntKind.u8.wrap (upto n j : Int))]) (t := 5) (fr := (0, 0)) (heap_alloc_new wr _)) (by simp [Value.oneCell'])
            (by omega) (by unfold maxLen; omega) (by omega) (by simp; omega) (wr.heap.size + 1) (by simp) ?_; intro gg cap w1 hown1 hgrow hat hlt1; have fz : w1.frozen? ⟨b, 1, none⟩ = false := (hgrow.frozen_far _ (by simp; omega) hbv).trans ((World.frozen?_of_block (Below.heap_alloc wr _ b hlt)).trans f1); have cz : w1.cell? ⟨b, 1, none⟩ = some v := (hgrow.cell_far _ (by simp; omega) hbv).trans ((World.cell?_of_block (Below.heap_alloc wr _ b hlt)).trans c1)))
      all_goals go_wp2
      all_goals
        go_roundw
        case rel =>
          have st := put_step (C := [UInt8.ofNat (n / 256 ^ j)]) HR.out (by simp [bC, upto_byte]) (by simp) hown1 hgrow hat
          rw [List.length_append] at st
          have hk2 := HK.out
          exact ⟨j, P ++ [UInt8.ofNat (n / 256 ^ j)], _, by omega, by go_num, by rw [List.append_assoc]; exact HP.out, by rw [← List.append_assoc]; exact st.1, hk2.1.trans st.2.1 hk2.2, hk2.2.trans st.2.2 hk2.1.size⟩
        case measure => simp [intOf]

end Go.Proofs.YtecidbdbdnnglaaGreat
