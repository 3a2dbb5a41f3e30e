/- Bytes that a call gathers; a state as text; the padding. -/
import Derived.Test.YtcofadhflbiahabShF
import Derived.Laws.MakeOwn
import Derived.Laws.IdiomStrings
import Derived.Maps.AppendAt
import Derived.Deep.AppendLies
namespace Go.Proofs.Ytcofadhflbiahab
open Go.RowKit

theorem Try.info5 : (Try.prog.info? 5).map (fun i => (i.zero, i.size, i.bytes)) = some (some (.int .u8 0), 1, 1) := by kernel_rfl
theorem Try.size5 : (Try.prog.info? 5).map (·.size) = some 1 := by kernel_rfl

/-- The slice v holds the bytes l; nothing below B has turned since w0. -/
structure Owned (B : Nat) (w0 w : World) (v : Value) (l : List UInt8) : Prop where
  own : w.ownsRow B 5 1 v l.length (bC l)
  bel : Below B w0 w
  le : B ≤ w.heap.size

theorem Owned.nil {B : Nat} {w0 w : World} (h : Below B w0 w) (hB : B ≤ w.heap.size) : Owned B w0 w (.slice none 0 0) [] := ⟨⟨rfl, .inl ⟨rfl, rfl⟩⟩, h, hB⟩
theorem Owned.alloc {B : Nat} {w0 w : World} {v : Value} {l : List UInt8} (h : Owned B w0 w v l) (o : Obj) : Owned B w0 (w.alloc o) v l :=
  ⟨h.own.alloc o, h.bel.alloc h.le o, by have := h.le; simp; omega⟩
theorem ownsRow_heap {w w1 : World} {B : Nat} {e : TypeId} {z : Nat} {v : Value} {n : Nat} {xs : List Value} (h4 : w1.heap = w.heap) (h : w.ownsRow B e z v n xs) : w1.ownsRow B e z v n xs := by
  unfold World.ownsRow at h ⊢
  rw [h4]; exact h
theorem Owned.same {B : Nat} {w0 w w1 : World} {v : Value} {l : List UInt8} (h : Owned B w0 w v l) (h1 : w1.os = w.os) (h2 : w1.tape = w.tape) (h3 : w1.output = w.output) (h4 : w1.heap = w.heap) : Owned B w0 w1 v l :=
  ⟨ownsRow_heap h4 h.own, Below.same h.bel h1 h2 h3 h4, by rw [h4]; exact h.le⟩
theorem Owned.grow {B : Nat} {w0 w w2 : World} {v v2 : Value} {l xs : List UInt8} {m : Nat} (h : Owned B w0 w v l) (hm : xs.length = m) (h2 : w2.ownsRow B 5 1 v2 (l.length + m) (bC l ++ bC xs)) (hg : w.grownBy w2 v.ownBlock) : Owned B w0 w2 v2 (l ++ xs) :=
  ⟨by rw [List.length_append, bC_app, hm]; exact h2, h.bel.grown hg h.le (fun k hk => (h.own.lt k hk).1), Nat.le_trans h.le hg.size⟩
theorem Owned.form {B : Nat} {w0 w : World} {v : Value} {l : List UInt8} (h : Owned B w0 w v l) : ∃ a cap, v = .slice a l.length cap := by
  rcases h.own.2 with ⟨hv, h0⟩ | ⟨g, cap, cur, hv, _⟩
  · exact ⟨none, 0, by rw [hv, h0]⟩
  · exact ⟨_, _, hv⟩
theorem Owned.text {B : Nat} {w0 w : World} {v : Value} {l : List UInt8} (h : Owned B w0 w v l) : (convert 33 9 v).run Try.prog w = .ok (.string ⟨l.toArray⟩) w := by
  rcases h.own.2 with ⟨rfl, h0⟩ | ⟨g, cap, cur, rfl, hg, hh, hnc, hcp, hcs, htake⟩
  · obtain rfl := List.eq_nil_of_length_eq_zero h0
    rw [run_convert_bytes_string w 33 9 5 none 0 0 Try.underlying33 Try.underlying5 Try.underlying9]; rfl
  · exact run_convert_bytes_back (P := Try.prog) w 33 9 5 ⟨g, 0, none⟩ cap l Try.underlying33 Try.underlying5 Try.underlying9 (fun j hj => h.own.cells (g := g) rfl j _ (by simp [bC, hj]))

theorem byte_of (n : Nat) : (n : Int) % 256 = ((UInt8.ofNat n).toNat : Int) := by simp
theorem u_bytes (x : BitVec 32) : [Value.int .u8 (u x / 16777216 % 256), .int .u8 (u x / 65536 % 256), .int .u8 (u x / 256 % 256), .int .u8 (u x % 256)] = bC (wBytes x) := by
  have e : ∀ k : Nat, u x / (k : Int) % 256 = ((UInt8.ofNat (x.toNat / k)).toNat : Int) := fun k => by rw [← byte_of]; rfl
  have e0 : u x % 256 = ((UInt8.ofNat x.toNat).toNat : Int) := by rw [← byte_of]; rfl
  have e1 := e 16777216
  have e2 := e 65536
  have e3 := e 256
  simp only [wBytes, bC, List.map_cons, List.map_nil]
  rw [← e1, ← e2, ← e3, ← e0]
  rfl

theorem flat_snoc (l : List (BitVec 32)) (j : Nat) (h : j < l.length) : (l.take (j + 1)).flatMap wBytes = (l.take j).flatMap wBytes ++ wBytes (l.getD j 0) := by
  rw [List.take_add_one, List.flatMap_append]
  simp [h, List.getD]
theorem flat_len (l : List (BitVec 32)) : (l.flatMap wBytes).length = 4 * l.length := by
  induction l with
  | nil => rfl
  | cons a l ih => simp [wBytes] at ih ⊢; omega

set_option maxRecDepth 100000 in
set_option maxHeartbeats 1600000 in
theorem stext_any (S : St) (w : World) :
    Calls Try.prog 18 #[.agg (uC S.list).toArray] w fun e w' => e = .returned (.string ⟨S.text.toArray⟩) ∧ Below w.heap.size w w' := by
  obtain ⟨i0, hi0, hz0, hz1, hz2⟩ := info_parts Try.info5
  have hmk : ∀ u : World, (Instr.makeSlice 33 (.int .i64 0) (.int .i64 32)).run Try.prog u = .ok (.slice (some ⟨u.heap.size, 0, none⟩) 0 32) (u.alloc (.cells (madeCells #[.int .u8 0] 32) 5)) := fun u => by
    have h := run_make (P := Try.prog) u 33 5 i0 (.int .u8 0) Try.underlying33 hi0 hz0 .i64 .i64 0 32 (by omega) (by omega) (by rw [hz2]; omega) (by omega)
    rw [hz1] at h
    exact h
  obtain ⟨SL, hSL⟩ : ∃ l, l = S.list := ⟨_, rfl⟩
  rw [← hSL]
  have HSL := hid hSL
  have HE := hid (list_len S)
  rw [← hSL] at HE
  have HM := hid hmk
  clear hSL hmk
  go_enter Try.func18, Try.ntmps18
  go_wp2_with (first
    | refine wl_box_row rfl 39 _ rfl _ rfl ?_
    | refine wl_load_row rfl 39 _ rfl w.heap.size 0 rfl (uC SL) _ Try.underlying39 rfl 8 (by rw [uC_len]; exact HE.out) Try.size39 (heap_cells (t := 39) (fr := (0, 0)) ((Below.heap_alloc _ _ _ (by simp)).trans (heap_alloc_last w _))) ?_
    | rw [HM.out])
  go_loopw [3, 8] (fun v i wr => ∃ j : Nat, j ≤ 8 ∧ i = .int .i64 (j : Int) ∧ Owned w.heap.size w wr v ((SL.take j).flatMap wBytes))
    (fun _ i _ => (8 - intOf i).toNat)
  case atStart =>
    refine ⟨0, by omega, rfl, ?_, ((Below.refl _ _).alloc (Nat.le_refl _) _).alloc (by simp) _, by simp; omega⟩
    have := World.ownsRow_made (base := w.heap.size) (e := 5) (size := 1) (w.alloc (.cells (uC SL).toArray 39)) (madeCells #[.int .u8 0] 32) 32 (by simp) (by decide) (size_madeCells _ _)
    simpa [bC] using this
  case round =>
    obtain ⟨j, hj, rfl, hO⟩ := hrel
    have HO := hid hO
    clear hO
    by_cases hj8 : j = 8
    · have hj1 : ¬ ((j : Int) < 8) := by omega
      have hc := HO.out.text
      have et : (SL.take j).flatMap wBytes = S.text := by rw [hj8, List.take_of_length_le (by rw [HE.out]; exact Nat.le_refl _), HSL.out]; rfl
      rw [et] at hc
      have HC := hid hc
      clear hc et hj hj8
      go_wp2_with rw [HC.out]
      go_ret
      exact ⟨rfl, HO.out.bel⟩
    · have hj1 : (j : Int) < 8 := by omega
      have hj0 : (0 : Int) ≤ (j : Int) := Int.natCast_nonneg _
      obtain ⟨x, ex⟩ : ∃ x, x = SL.getD j 0 := ⟨_, rfl⟩
      have hv : (uC SL).toArray[(j : Int).toNat]? = some (.int .u32 (u x)) := by
        rw [Int.toNat_natCast, List.getElem?_toArray, ex]
        exact uC_get SL j (by rw [HE.out]; omega)
      have HV := hid hv
      have HX := hid ex
      clear hv ex
      have hlen : ((SL.take j).flatMap wBytes).length + 4 ≤ 40 := by
        rw [flat_len, List.length_take, HE.out]
        omega
      have HN := hid hlen
      clear hlen
      go_wp2_with (first
        | refine wl_index_row rfl 39 _ _ rfl _ rfl _ _ rfl 8 29 Try.underlying39 _ Try.underlying29 rfl Try.size29 hj0 hj1 _ HV.out ?_
        | (at_builtin; refine wpList_append_own_at _ rfl _ _ 33 rfl w.heap.size 5 i0 (.int .u8 0) 1 1 Try.underlying33 hi0 hz0 hz1 hz2 rfl (by decide) _ _ _ rfl (HO.out.alloc _).own ⟨_, 0, none⟩ 4 4 (bC (wBytes x)) rfl rfl (by rw [← u_bytes]; exact World.news_of_block (t := 5) (fr := (0, 0)) (heap_alloc_last _ _)) (bC_one _) (by have := HN.out; unfold maxLen; omega) (by have := HN.out; omega) (HO.out.alloc _).le ?_
           intro v3 w3 hown3 hgrow3 i3 i4
           have HO3 := hid ((HO.out.alloc _).grow (xs := wBytes x) rfl hown3 hgrow3)
           clear hown3 hgrow3 i3 i4))
      go_roundw
      case rel => exact ⟨j + 1, by omega, rfl, by rw [flat_snoc _ _ (by rw [HE.out]; omega), ← HX.out]; exact HO3.out⟩
      case measure => simp [intOf]; omega
end Go.Proofs.Ytcofadhflbiahab
