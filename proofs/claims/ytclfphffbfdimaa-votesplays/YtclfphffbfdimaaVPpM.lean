/- Both tallies side by side; lists of one's own that are spoiled. No walk here. -/
import Derived.Test.YtclfphffbfdimaaVPhM
import Derived.Test.YtclfphffbfdimaaVPsM
import Derived.Test.YtclfphffbfdimaaKh1
namespace Go.Proofs.Ytclfphffbfdimaa
open Go.RowKit

/-- The program's tally at vt (blocks F), the document's at vd (blocks D), the configuration's box. -/
structure PvS (w0 w : World) (F : List Nat) (D : Nat → Prop) (vt vd : Value) (s : Ta) (ep : Int) (l : List Int) (rs : List Rv) (cv : Value) : Prop where
  tl : TlAt F w vt s
  dt : DtAt D w vd ep l rs
  cf : CvAt w w0.heap.size ep cv
  bel : Below w0.heap.size w0 w
  far : ∀ b, b ∈ F → w0.heap.size < b
  farD : ∀ k, D k → w0.heap.size < k
  dis : ∀ k, D k → k ∉ F
section
variable {w0 w w' : World} {F : List Nat} {D D' : Nat → Prop} {vt vd : Value} {s s2 : Ta} {ep : Int} {l : List Int} {rs rs' : List Rv} {cv : Value}
theorem PvS.keep (h : PvS w0 w F D vt vd s ep l rs cv) (hb : Below w.heap.size w w') : PvS w0 w' F D vt vd s ep l rs cv :=
  ⟨h.tl.keep hb, h.dt.keep hb, h.cf.keep hb, h.bel.trans (hb.mono h.bel.size), h.far, h.farD, h.dis⟩
theorem PvS.addP (h : PvS w0 w F D vt vd s ep l rs cv) (ho : Out F w w') (ht : TlAt F w' vt s2) : PvS w0 w' F D vt vd s2 ep l rs cv :=
  ⟨ht, h.dt.stay ho.size (fun k hk => ho.block k (h.dt.lt k hk) (h.dis k hk)), (ho.block _ (lt_of_blk h.cf) (fun hm => by have := h.far _ hm; omega)).trans h.cf,
   ⟨ho.os.trans h.bel.os, ho.tape.trans h.bel.tape, ho.output.trans h.bel.output, Nat.le_trans h.bel.size ho.size, fun k hk => (ho.block k (Nat.lt_of_lt_of_le hk h.bel.size) (fun hm => by have := h.far k hm; omega)).trans (h.bel.block k hk)⟩, h.far, h.farD, h.dis⟩
theorem PvS.addD (h : PvS w0 w F D vt vd s ep l rs cv) (ho : OutP D w w') (hd : DtAt D' w' vd ep l rs') (hD : ∀ k, D' k → D k ∨ w.heap.size ≤ k) : PvS w0 w' F D' vt vd s ep l rs' cv :=
  ⟨h.tl.stay ho.size (fun k hk => ho.block k (h.tl.lt k hk) (fun hd => h.dis k hd hk)), hd, (ho.block _ (lt_of_blk h.cf) (fun hm => by have := h.farD _ hm; omega)).trans h.cf,
   ⟨ho.os.trans h.bel.os, ho.tape.trans h.bel.tape, ho.output.trans h.bel.output, Nat.le_trans h.bel.size ho.size, fun k hk => (ho.block k (Nat.lt_of_lt_of_le hk h.bel.size) (fun hm => by have := h.farD k hm; omega)).trans (h.bel.block k hk)⟩, h.far,
   fun k hk => (hD k hk).elim (h.farD k) (fun h1 => by have := lt_of_blk h.cf; omega), fun k hk => (hD k hk).elim (h.dis k) (fun h1 hm => by have := h.tl.lt k hm; omega)⟩
/-- n cells of a block of neither tally, that may be written. -/
def WrC (w0 w : World) (F : List Nat) (D : Nat → Prop) (a : Option Addr) (n : Nat) : Prop := n = 0 ∨ ∃ k off cs T, a = some ⟨k, off, none⟩ ∧ w.heap[k]? = some (.cells cs T (0, 0)) ∧ off + n ≤ cs.size ∧ k ∉ F ∧ ¬ D k ∧ w0.heap.size < k
theorem WrC.at {a : Option Addr} {n : Nat} (h : WrC w0 w F D a n) (i : Nat) (hi : i < n) : ∃ k off v, a = some ⟨k, off, none⟩ ∧ w.cell? ⟨k, off + i, none⟩ = some v ∧ w.frozen? ⟨k, off + i, none⟩ = false ∧ k ∉ F ∧ ¬ D k ∧ w0.heap.size < k := by
  rcases h with h | ⟨k, off, cs, T, ha, hb, hs, h1, h2, h3⟩
  · omega
  · refine ⟨k, off, cs[off + i]'(by omega), ha, ?_, free_at hb _, h1, h2, h3⟩
    exact cell_at (L := cs.toList) (by simpa using hb) _ _ (by simp <;> omega)
theorem WrC.keep {a : Option Addr} {n : Nat} (h : WrC w0 w F D a n) (hb : Below w.heap.size w w') : WrC w0 w' F D a n := by
  rcases h with h | ⟨k, off, cs, T, ha, hh, hs, h1⟩
  · exact .inl h
  · exact .inr ⟨k, off, cs, T, ha, (hb.block k (lt_of_blk hh)).trans hh, hs, h1⟩
theorem WrC.set {a : Option Addr} {n b o : Nat} {u : Value} (h : WrC w0 w F D a n) : WrC w0 (w.setCell ⟨b, o, none⟩ u) F D a n := by
  rcases h with h | ⟨k, off, cs, T, ha, hh, hs, h1⟩
  · exact .inl h
  · by_cases hk : k = b
    · subst hk
      exact .inr ⟨k, off, _, T, ha, blk_set hh _ _, by simpa using hs, h1⟩
    · exact .inr ⟨k, off, cs, T, ha, (Below.heap_setCell w ⟨b, o, none⟩ u k hk).trans hh, hs, h1⟩
theorem WrC.addP {a : Option Addr} {n : Nat} (h : WrC w0 w F D a n) (ho : Out F w w') : WrC w0 w' F D a n := by
  rcases h with h | ⟨k, off, cs, T, ha, hh, hs, h1⟩
  · exact .inl h
  · exact .inr ⟨k, off, cs, T, ha, (ho.block k (lt_of_blk hh) h1.1).trans hh, hs, h1⟩
theorem WrC.addD {a : Option Addr} {n : Nat} (h : WrC w0 w F D a n) (ho : OutP D w w') (hD : ∀ k, D' k → D k ∨ w.heap.size ≤ k) : WrC w0 w' F D' a n := by
  rcases h with h | ⟨k, off, cs, T, ha, hh, hs, h1⟩
  · exact .inl h
  · exact .inr ⟨k, off, cs, T, ha, (ho.block k (lt_of_blk hh) h1.2.1).trans hh, hs, h1.1, fun hd => (hD k hd).elim h1.2.1 (fun h3 => by have := lt_of_blk hh; omega), h1.2.2⟩
theorem PvS.set (h : PvS w0 w F D vt vd s ep l rs cv) {k o : Nat} {u : Value} (h1 : k ∉ F) (h2 : ¬ D k) (h3 : w0.heap.size < k) : PvS w0 (w.setCell ⟨k, o, none⟩ u) F D vt vd s ep l rs cv := by
  have hb : ∀ q, q ≠ k → (w.setCell ⟨k, o, none⟩ u).heap[q]? = w.heap[q]? := fun q hq => Below.heap_setCell w ⟨k, o, none⟩ u q hq
  have hs : (w.setCell ⟨k, o, none⟩ u).heap.size = w.heap.size := by simp [World.setCell]
  exact ⟨h.tl.stay (by omega) (fun q hq => hb q (fun e => h1 (e ▸ hq))), h.dt.stay (by omega) (fun q hq => hb q (fun e => h2 (e ▸ hq))), (hb _ (by omega)).trans h.cf, h.bel.setCell (p := ⟨k, o, none⟩) (by show w0.heap.size ≤ k; omega) u, h.far, h.farD, h.dis⟩
theorem PvS.newI (h : PvS w0 w F D vt vd s ep l rs cv) {B : Nat} {ad : Option Addr} {nx : List Int} (hB : w.heap.size ≤ B) (hn : NewI B w' ad nx) : WrC w0 w' F D ad nx.length := by
  rcases hn.ints with e | ⟨k, off, ha, hk, hc⟩
  · exact .inl (by rw [e]; rfl)
  · by_cases h0 : nx.length = 0
    · exact .inl h0
    · obtain ⟨hf, cs, T, hb⟩ := hn.far _ ha
      have hl := hc (nx.length - 1) _ (List.getElem?_eq_getElem (by omega))
      have hlt : off + (nx.length - 1) < cs.size := by
        simp [World.cell?, hb] at hl
        exact (Array.getElem?_eq_some_iff.1 hl).1
      refine .inr ⟨k, off, cs, T, ha, hb, by omega, fun hm => ?_, fun hm => ?_, ?_⟩
      · have := h.tl.lt k hm; have : B ≤ k := hf; omega
      · have := h.dt.lt k hm; have : B ≤ k := hf; omega
      · have := lt_of_blk h.cf; have : B ≤ k := hf; omega
theorem PvS.nwP (h : PvS w0 w F D vt vd s ep l rs cv) {B : Nat} {ad : Option Addr} {sg : List (Int × ByteArray)} (hB : w.heap.size ≤ B) (hn : NwP B w' ad sg) : WrC w0 w' F D ad (2 * sg.length) := by
  rcases hn.1 with e | ⟨k, off, ha, hk, hc⟩
  · exact .inl (by rw [e]; rfl)
  · by_cases h0 : sg.length = 0
    · exact .inl (by omega)
    · obtain ⟨hf, cs, T, hb⟩ := hn.2 _ ha
      have hl := (hc (sg.length - 1) _ (List.getElem?_eq_getElem (by omega))).2
      have hlt : off + (sg.length - 1) * 2 + 1 < cs.size := by
        simp [World.cell?, hb] at hl
        exact (Array.getElem?_eq_some_iff.1 hl).1
      refine .inr ⟨k, off, cs, T, ha, hb, by omega, fun hm => ?_, fun hm => ?_, ?_⟩
      · have := h.tl.lt k hm; have : B ≤ k := hf; omega
      · have := h.dt.lt k hm; have : B ≤ k := hf; omega
      · have := lt_of_blk h.cf; have : B ≤ k := hf; omega
/-- What is settled, as data. -/
def svT (s : Ta) : ByteArray := if chF s then (chB s).1 else ⟨#[]⟩
def sv1 (s : Ta) : List (Int × ByteArray) := if chF s then signsOf s (chB s) (setS s) else []
def svE (s : Ta) : Int := if chF s then s.ep + 1 else 0
def svN (s : Ta) : List Int := if chF s then nxB s else []
def sv3 (s : Ta) : List (Int × ByteArray) := if chF s then signsOf s (chB s) (chB s).2 else []
theorem set_ans {r : Value} (h : SetAns w s r) : ∃ a1 c1 a2 c2 a3 c3, r = .tuple #[.agg #[.string (svT s), .slice a1 (sv1 s).length c1, .int .i64 (svE s), .slice a2 (svN s).length c2, .slice a3 (sv3 s).length c3], .bool (chF s)] ∧ PairsIn w a1 (sv1 s) ∧ IntsIn w a2 (svN s) ∧ PairsIn w a3 (sv3 s) := by
  unfold SetAns at h
  cases hf : chF s with
  | true =>
    rw [if_pos hf] at h
    obtain ⟨a1, c1, a2, c2, a3, c3, h1, h2, h3, h4⟩ := h
    simp only [svT, sv1, svE, svN, sv3, hf, if_true]
    exact ⟨a1, c1, a2, c2, a3, c3, h1, h2, h3, h4⟩
  | false =>
    rw [if_neg (by rw [hf]; decide)] at h
    refine ⟨none, 0, none, 0, none, 0, ?_, ?_⟩
    · rw [h]; simp only [svT, sv1, svE, svN, sv3, hf]; rfl
    · simp only [sv1, svN, sv3, hf]; exact ⟨.inl rfl, .inl rfl, .inl rfl⟩
theorem sv_len (h : TOk s) : (sv1 s).length ≤ maxLen ∧ (svN s).length ≤ maxLen ∧ (sv3 s).length ≤ maxLen := by
  have hm := h.mlen.2
  have hs : ∀ t, (signsOf s (chB s) t).length ≤ maxLen := fun t => by
    rw [signsOf, List.length_map]
    exact Nat.le_trans (List.length_filter_le _ _) (by unfold maxLen; omega)
  have h0 : (0 : Nat) ≤ maxLen := Nat.zero_le _
  cases hf : chF s with
  | true =>
    simp only [sv1, svN, sv3, hf, if_true]
    refine ⟨hs _, ?_, hs _⟩
    have := mem_len (rightC_ep (chosen_is h (chB_of hf)).2.2.2.2.2).2
    unfold maxLen; omega
  | false => simp only [sv1, svN, sv3, hf]; exact ⟨h0, h0, h0⟩
end
end Go.Proofs.Ytclfphffbfdimaa
