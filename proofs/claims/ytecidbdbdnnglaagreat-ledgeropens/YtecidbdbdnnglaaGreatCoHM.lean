/- What the document reads as a configuration. -/
import Derived.Test.YtecidbdbdnnglaaGreatCoGM
import Derived.Test.YtecidbdbdnnglaaGreatMrRM
import Derived.Test.YtecidbdbdnnglaaGreatGnI
import Derived.Deep.RegionLaw
namespace Go.Proofs.YtecidbdbdnnglaaGreat
open Go.RowKit

/-- A reader behind so many bytes read one by one; the numbers read. -/
def rdS (s : ByteArray) (sh : Bool) : Nat → ByteArray × Bool
  | 0 => (s, sh)
  | k + 1 => (rS (rdS s sh k).1 (rdS s sh k).2 1, rB (rdS s sh k).1 (rdS s sh k).2 1)
def rdL (s : ByteArray) (sh : Bool) : Nat → List Int
  | 0 => []
  | k + 1 => rdL s sh k ++ [(rN (rdS s sh k).1 (rdS s sh k).2 1 : Int)]
theorem rdL_len (s : ByteArray) (sh : Bool) : ∀ k, (rdL s sh k).length = k
  | 0 => rfl
  | k + 1 => by rw [rdL, List.length_append, rdL_len s sh k]; rfl
/-- What is read: the head, the epoch, how many, and each. -/
def cH (t : ByteArray) : Nat := rN t false 1
def cS1 (t : ByteArray) : ByteArray × Bool := (rS t false 1, rB t false 1)
def cE (t : ByteArray) : Nat := rN (cS1 t).1 (cS1 t).2 2
def cS2 (t : ByteArray) : ByteArray × Bool := (rS (cS1 t).1 (cS1 t).2 2, rB (cS1 t).1 (cS1 t).2 2)
def cN (t : ByteArray) : Nat := rN (cS2 t).1 (cS2 t).2 1
def cS3 (t : ByteArray) : ByteArray × Bool := (rS (cS2 t).1 (cS2 t).2 1, rB (cS2 t).1 (cS2 t).2 1)
def cM (t : ByteArray) : List Int := rdL (cS3 t).1 (cS3 t).2 (cN t)
def cF (t : ByteArray) : ByteArray × Bool := rdS (cS3 t).1 (cS3 t).2 (cN t)
def readB (t : ByteArray) : Bool := decide (cH t = 67) && (decide (endOf (cF t).1 (cF t).2 = 0) && rightC (cE t : Int) (cM t))
section
variable {o : Oper} {a : Act} {w : World} {K : Act → World → Prop} {Q : Exit → Act → World → Prop}
/-- A number behind one's own numbers. -/
theorem owp_app_I (sl x : Operand) (ho : o.op = .call { callee := .builtin .append, args := #[sl, x], argTypes := #[22, 22] }) (B : Nat) (v : Value) (n : Nat) (l : List Int)
    (hs : a.eval sl = v) (hO : w.ownsRow B 3 1 v n (iC l)) (g : Nat) (y : Int) (hx : a.eval x = .slice (some ⟨g, 0, none⟩) 1 1) (hc : w.cell? ⟨g, 0, none⟩ = some (.int .i64 y)) (hB : B ≤ w.heap.size) (hlen : n + 1 ≤ 17592186044416)
    (h : ∀ v' w', Hid (w'.ownsRow B 3 1 v' (n + 1) (iC (l ++ [y]))) → Hid (w.grownBy w' v.ownBlock) → K (a.put o.dst v') w') : o.wp Tryz.prog a w K Q := by
  obtain ⟨i0, hi0, hz0, hz1, hz2⟩ := info_parts Tryz.info3
  obtain ⟨v', w', hr, h2, h3, h4⟩ := run_append_own (P := Tryz.prog) w B 22 o.type 3 i0 (.int .i64 0) 1 8 Tryz.underlying22 hi0 hz0 hz1 hz2 rfl (by decide) v n (iC l) hO ⟨g, 0, none⟩ 1 1 [.int .i64 y] rfl (fun j u hj => by
    match j, hj with
    | 0, hj => simp at hj; subst hj; simpa [Addr.add] using hc) (by simp [Value.oneCell']) (by unfold maxLen; omega) (by omega) hB
  refine owp_value (v := v') (w' := w') ?_ (h v' w' (by rw [iC_app]; exact h2) h3)
  simp [execOp, ho, resolve, invoke, builtin, hs, hx, hr, Result.andThen]
end
def readZ (t : ByteArray) : Int := if readB t then (cE t : Int) else 0
def readM (t : ByteArray) : List Int := if readB t then cM t else []
def readE (t : ByteArray) : Int := if readB t then 0 else 5
/-- The result's block is as laid, the reader stands at s; nothing else has turned since w0. -/
structure RdSt (w0 w : World) (s : ByteArray) (sh : Bool) : Prop where
  res : w.heap[w0.heap.size]? = some (.cells #[.int .i64 0, .slice none 0 0] 24 (0, 0))
  rd : MrAt w (w0.heap.size + 1) s sh
  bel : Below w0.heap.size w0 w
theorem RdSt.kept {w0 w w' : World} {s s' : ByteArray} {sh sh' : Bool} (h : RdSt w0 w s sh) (k : Kept (w0.heap.size + 1) none w w') (hr : MrAt w' (w0.heap.size + 1) s' sh') : RdSt w0 w' s' sh' :=
  ⟨(k.block _ (lt_of_blk h.res) (by omega) (by simp)).trans h.res, hr, h.bel.trans (k.below (Nat.le_of_lt (lt_of_blk h.res)) (by omega) (fun g hg => by cases hg))⟩
theorem RdSt.keep {w0 w w' : World} {s : ByteArray} {sh : Bool} (h : RdSt w0 w s sh) (hb : Below w.heap.size w w') : RdSt w0 w' s sh :=
  ⟨(hb.block _ (lt_of_blk h.res)).trans h.res, (hb.block _ (lt_of_blk h.rd)).trans h.rd, h.bel.trans (hb.mono h.bel.size)⟩
/-- .. and what is read so far lies at block b. -/
structure CfSt (w0 w : World) (s : ByteArray) (sh : Bool) (b : Nat) (E : Int) (v : Value) (l : List Int) : Prop where
  st : RdSt w0 w s sh
  cf : w.heap[b]? = some (.cells #[.int .i64 E, v] 24 (0, 0))
  own : w.ownsRow (b + 1) 3 1 v l.length (iC l)
  hb : w0.heap.size + 2 ≤ b
theorem own_kept {w w' : World} {B r : Nat} {v : Value} {n : Nat} {xs : List Value} {e : TypeId} (h : w.ownsRow B e 1 v n xs) (k : Kept r none w w') (hr : r < B) : w'.ownsRow B e 1 v n xs := by
  refine ⟨h.1, ?_⟩
  rcases h.2 with hn | ⟨g, cap, cur, hv, hB, hh, hx⟩
  · exact .inl hn
  · exact .inr ⟨g, cap, cur, hv, hB, (k.block g (lt_of_blk hh) (by omega) (by simp)).trans hh, hx⟩
theorem CfSt.kept {w0 w w' : World} {s s' : ByteArray} {sh sh' : Bool} {b : Nat} {E : Int} {v : Value} {l : List Int} (h : CfSt w0 w s sh b E v l) (k : Kept (w0.heap.size + 1) none w w') (hr : MrAt w' (w0.heap.size + 1) s' sh') : CfSt w0 w' s' sh' b E v l :=
  ⟨h.st.kept k hr, (k.block _ (lt_of_blk h.cf) (by have := h.hb; omega) (by simp)).trans h.cf, own_kept h.own k (by have := h.hb; omega), h.hb⟩
theorem CfSt.c0 {w0 w : World} {s : ByteArray} {sh : Bool} {b : Nat} {E : Int} {v : Value} {l : List Int} (h : CfSt w0 w s sh b E v l) : w.cell? ⟨b, 0, none⟩ = some (.int .i64 E) := cell_of_blk h.cf 0 (by simp)
theorem CfSt.c1 {w0 w : World} {s : ByteArray} {sh : Bool} {b : Nat} {E : Int} {v : Value} {l : List Int} (h : CfSt w0 w s sh b E v l) : w.cell? ⟨b, 1, none⟩ = some v := cell_of_blk h.cf 1 (by simp)
theorem CfSt.drew {w0 w : World} {s : ByteArray} {sh : Bool} {b : Nat} {E : Int} {v : Value} {l : List Int} (h : CfSt w0 w s sh b E v l) : CfSt w0 w.drew s sh b E v l :=
  ⟨⟨h.st.res, h.st.rd, ⟨h.st.bel.os, h.st.bel.tape, h.st.bel.output, h.st.bel.size, h.st.bel.block⟩⟩, h.cf, ownsRow_heap rfl h.own, h.hb⟩
theorem own_low {w : World} {B B' : Nat} {e : TypeId} {z : Nat} {v : Value} {n : Nat} {xs : List Value} (h : w.ownsRow B e z v n xs) (hB : B' ≤ B) : w.ownsRow B' e z v n xs := by
  refine ⟨h.1, ?_⟩
  rcases h.2 with hn | ⟨g, cap, cur, hv, hb, hx⟩
  · exact .inl hn
  · exact .inr ⟨g, cap, cur, hv, Nat.le_trans hB hb, hx⟩
theorem ret_cell2 {f : Func} {a : Act} {w : World} {Q : Ending → World → Prop} {s s2 : Nat} {t : TypeId} {ad : Addr} {v v2 : Value} (hr : f.results = #[.cell s t, .tmp s2]) (hs : a.tmps.getD s undef = .pointer (some ad)) (hl : (loadVar t ad).run Tryz.prog w = .ok v w) (h2 : a.tmps.getD s2 undef = v2) (hd : a.defers = [])
    (h : Q (.returned (.tuple #[v, v2])) w) : bodyPost Tryz.prog f Q .ret a w := by
  refine bodyPost_ret (v := .tuple #[v, v2]) ?_ hd h
  have h1 : a.tmps.getD s undef = .pointer (some ad) := hs
  simp [results, hr, -Array.getD_eq_getD_getElem?, h1, h2, asAddr, hl]
theorem load_conf (w : World) (b : Nat) (x y : Value) (c0 : w.cell? ⟨b, 0, none⟩ = some x) (c1 : w.cell? ⟨b, 1, none⟩ = some y) : (loadVar 24 ⟨b, 0, none⟩).run Tryz.prog w = .ok (.agg #[x, y]) w := by
  go_simp
theorem res_set {w : World} {b : Nat} {p q x y : Value} {T : TypeId} (h : w.heap[b]? = some (.cells #[p, q] T (0, 0))) : ((w.setCell ⟨b, 0, none⟩ x).setCell ⟨b, 1, none⟩ y).heap[b]? = some (.cells #[x, y] T (0, 0)) := by
  have h1 : (w.setCell ⟨b, 0, none⟩ x).heap[b]? = some (.cells #[x, q] T (0, 0)) := (blk_set h 0 x).trans (by simp)
  exact (blk_set h1 1 y).trans (by simp)
theorem own_setCell {w : World} {B : Nat} {v : Value} {n : Nat} {xs : List Value} {e : TypeId} (h : w.ownsRow B e 1 v n xs) (r o : Nat) (x : Value) (hr : r < B) : (w.setCell ⟨r, o, none⟩ x).ownsRow B e 1 v n xs := by
  refine ⟨h.1, ?_⟩
  rcases h.2 with hn | ⟨g, cap, cur, hv, hB, hh, hx⟩
  · exact .inl hn
  · exact .inr ⟨g, cap, cur, hv, hB, (Below.heap_setCell _ _ _ _ (by show ¬ g = r; omega)).trans hh, hx⟩
theorem own_ints {w : World} {B : Nat} {v : Value} {l : List Int} (h : w.ownsRow B 3 1 v l.length (iC l)) : ∃ ad cap, v = .slice ad l.length cap ∧ IntsIn w ad l := by
  rcases h.2 with ⟨hv, h0⟩ | ⟨g, cap, cur, hv, hB, hh, hx⟩
  · exact ⟨none, 0, by rw [hv, h0], .inl (List.eq_nil_of_length_eq_zero h0)⟩
  · refine ⟨_, cap, hv, .inr ⟨g, 0, rfl, lt_of_blk hh, fun j z hj => ?_⟩⟩
    subst hv
    have := h.cells (g := g) rfl j _ (iC_get l j z hj)
    rwa [Addr.add_lit] at this
/-- The next one put behind those read. -/
theorem CfSt.put {w0 w w4 : World} {s : ByteArray} {sh : Bool} {b : Nat} {E : Int} {v v4 : Value} {l l4 : List Int} {o : Obj} (h : CfSt w0 w s sh b E v l) (h4 : w4.ownsRow (b + 1) 3 1 v4 l4.length (iC l4)) (hg : (w.alloc o).grownBy w4 v.ownBlock) :
    CfSt w0 (w4.setCell ⟨b, 1, none⟩ v4) s sh b E v4 l4 := by
  have hne : ∀ k, k ≤ b → some k ≠ v.ownBlock := fun k hk e => by have := (h.own.lt k e.symm).1; omega
  have hkeep : ∀ k, k ≤ b → k < w.heap.size → w4.heap[k]? = w.heap[k]? := fun k hk hlt => (hg.block k (by simp; omega) (hne k hk)).trans (Below.heap_alloc w o k hlt)
  have hb := h.hb
  have hcf : w4.heap[b]? = some (.cells #[.int .i64 E, v] 24 (0, 0)) := (hkeep b (Nat.le_refl _) (lt_of_blk h.cf)).trans h.cf
  have hoth : ∀ k, k ≠ b → (w4.setCell ⟨b, 1, none⟩ v4).heap[k]? = w4.heap[k]? := fun k hk => Below.heap_setCell _ _ _ _ (by simpa using hk)
  have hbel4 : Below w0.heap.size w0 w4 := (h.st.bel.alloc h.st.bel.size o).grown hg (by have := h.st.bel.size; simp; omega) (fun k hk => by have := (h.own.lt k hk).1; omega)
  refine ⟨⟨?_, ?_, ?_⟩, ?_, ?_, hb⟩
  · rw [hoth _ (by omega), hkeep _ (by omega) (lt_of_blk h.st.res)]
    exact h.st.res
  · show (w4.setCell ⟨b, 1, none⟩ v4).heap[w0.heap.size + 1]? = _
    rw [hoth _ (by omega), hkeep _ (by omega) (lt_of_blk h.st.rd)]
    exact h.st.rd
  · exact hbel4.setCell (p := ⟨b, 1, none⟩) (by show w0.heap.size ≤ b; omega) _
  · exact (blk_set hcf 1 v4).trans (by simp)
  · refine ⟨h4.1, ?_⟩
    rcases h4.2 with hn | ⟨g, cap, cur, hv, hB, hh, hx⟩
    · exact .inl hn
    · exact .inr ⟨g, cap, cur, hv, hB, (hoth g (by omega)).trans hh, hx⟩
set_option maxRecDepth 100000 in
set_option maxHeartbeats 3200000 in
theorem vread_any (t : ByteArray) (w : World) :
    Calls Tryz.prog 46 #[.string t] w fun e w' => ∃ v, e = .returned (.tuple #[.agg #[.int .i64 (readZ t), v], .int .i64 (readE t)]) ∧ OwnedI w.heap.size w w' v (readM t) := by
  have H0 : Hid (RdSt w ((w.alloc (.cells #[.int .i64 0, .slice none 0 0] 24)).alloc (.cells #[.string t, .bool false] 96)) t false) := hid
    ⟨(Below.heap_alloc _ _ _ (by simp)).trans (heap_alloc_last w _), snd_alloc w _ _, ((Below.refl _ _).alloc (Nat.le_refl _) _).alloc (by simp) _⟩
  have hN1 : cN t < 256 := by have := rN_lt (cS2 t).1 (cS2 t).2 1; simpa [cN] using this
  obtain ⟨N, eN⟩ : ∃ N, N = cN t := ⟨_, rfl⟩
  obtain ⟨E, eE⟩ : ∃ E, E = cE t := ⟨_, rfl⟩
  obtain ⟨H, eH⟩ : ∃ H, H = cH t := ⟨_, rfl⟩
  have hN2 : (N : Int) < 256 := by omega
  have HC := hid (And.intro eN (And.intro eE eH))
  have HA : Hid (∀ u : World, RdSt w u t false → Calls Tryz.prog 45 #[.pointer (some ⟨w.heap.size + 1, 0, none⟩), .int .i64 1] u fun e w' => e = .returned (.int .i64 (H : Int)) ∧ RdSt w w' (cS1 t).1 (cS1 t).2) := hid (fun u hu => (mnum_any _ _ _ 1 u hu.rd (by decide) (by decide)).mono fun e w' ⟨he, hr, hk⟩ => ⟨by rw [he, eH]; rfl, hu.kept hk hr⟩)
  have HB : Hid (∀ u : World, RdSt w u (cS1 t).1 (cS1 t).2 → Calls Tryz.prog 45 #[.pointer (some ⟨w.heap.size + 1, 0, none⟩), .int .i64 2] u fun e w' => e = .returned (.int .i64 (E : Int)) ∧ RdSt w w' (cS2 t).1 (cS2 t).2) := hid (fun u hu => (mnum_any _ _ _ 2 u hu.rd (by decide) (by decide)).mono fun e w' ⟨he, hr, hk⟩ => ⟨by rw [he, eE]; rfl, hu.kept hk hr⟩)
  have HD : Hid (∀ (u : World) (b : Nat), CfSt w u (cS2 t).1 (cS2 t).2 b (E : Int) (.slice none 0 0) [] → Calls Tryz.prog 45 #[.pointer (some ⟨w.heap.size + 1, 0, none⟩), .int .i64 1] u fun e w' => e = .returned (.int .i64 (N : Int)) ∧ CfSt w w' (cS3 t).1 (cS3 t).2 b (E : Int) (.slice none 0 0) []) := hid (fun u b hu => (mnum_any _ _ _ 1 u hu.st.rd (by decide) (by decide)).mono fun e w' ⟨he, hr, hk⟩ => ⟨by rw [he, eN]; rfl, hu.kept hk hr⟩)
  clear eN eE eH hN1
  go_enter Tryz.func46, Tryz.ntmps46
  go_wp2_with (first
    | (go_at_call 45; have := H2; refine (HD.out _ _ (by exact H2.out)).mono ?_; rintro e w3 ⟨rfl, h3⟩; have H3 := hid h3; clear h3)
    | (go_at_call 45; have := H1; refine (HB.out _ (by exact H1.out)).mono ?_; rintro e w2 ⟨rfl, h2⟩
       have H2 : Hid (CfSt w (w2.alloc (.cells #[.int .i64 (E : Int), .slice none 0 0] 24)) (cS2 t).1 (cS2 t).2 w2.heap.size (E : Int) (.slice none 0 0) []) := hid ⟨h2.keep ((Below.refl _ _).alloc (Nat.le_refl _) _), heap_alloc_last w2 _, ⟨rfl, .inl ⟨rfl, rfl⟩⟩, lt_of_blk h2.rd⟩
       clear h2)
    | (go_at_call 45; refine (HA.out _ (by exact H0.out)).mono ?_; rintro e w1 ⟨rfl, h1⟩; have H1 := hid h1; clear h1))
  obtain ⟨b, eb⟩ : ∃ b, b = w2.heap.size := ⟨_, rfl⟩
  rw [← eb] at H3 ⊢
  obtain ⟨S, eS⟩ : ∃ S, S = cS3 t := ⟨_, rfl⟩
  rw [← eS] at H3
  have HS := hid eS
  clear eb eS this H0 H1 H2
  go_loopw [8] (fun i wr => ∃ (j : Nat) (v : Value), j ≤ N ∧ i = .int .i64 (j : Int) ∧ CfSt w wr (rdS S.1 S.2 j).1 (rdS S.1 S.2 j).2 b (E : Int) v (rdL S.1 S.2 j))
    (fun i _ => ((N : Int) - intOf i).toNat)
  case atStart => exact ⟨0, .slice none 0 0, by omega, rfl, H3.out⟩
  case round =>
    obtain ⟨j, v, hj, rfl, hO⟩ := hrel
    have HO := hid hO
    clear hO H3
    by_cases hjn : j = N
    · have hj1 : ¬ ((j : Int) < (N : Int)) := by omega
      have hO := HO.out
      rw [hjn] at hO
      have HM : Hid (rdL S.1 S.2 N = cM t ∧ rdS S.1 S.2 N = cF t) := hid (by rw [HS.out, HC.out.1]; exact ⟨rfl, rfl⟩)
      rw [HM.out.1, HM.out.2] at hO
      obtain ⟨ad, cap, hv, hI⟩ := own_ints hO.own
      subst hv
      have HF := hid hO
      have HI := hid hI
      clear hj hjn hO hI HO
      have r0 : wr.cell? ⟨w.heap.size, 0, none⟩ = some (.int .i64 0) := cell_of_blk HF.out.st.res 0 (by simp)
      have r1 : wr.cell? ⟨w.heap.size, 1, none⟩ = some (.slice none 0 0) := cell_of_blk HF.out.st.res 1 (by simp)
      have f0 : wr.frozen? ⟨w.heap.size, 0, none⟩ = false := free_of_blk HF.out.st.res 0
      have f1 : wr.frozen? ⟨w.heap.size, 1, none⟩ = false := free_of_blk HF.out.st.res 1
      by_cases hH : H = 67
      · have hH1 : (H : Int) = 67 := by omega
        have hE := mend_any (w.heap.size + 1) (cF t).1 (cF t).2 wr HF.out.st.rd
        by_cases he : endOf (cF t).1 (cF t).2 = 0
        · rw [he] at hE
          have HEnd := hid hE
          have HRt : Hid (∀ (bb : Bool), rightC (E : Int) (cM t) = bb → ∀ u : World, IntsIn u ad (cM t) → Calls Tryz.prog 23 #[.agg #[.int .i64 (E : Int), .slice ad (cM t).length cap]] u fun e w' => e = .returned (.bool bb) ∧ Below u.heap.size u w') := hid (fun bb hbb u hu => by rw [← hbb]; exact vright_any (E : Int) ad (cM t).length cap (cM t) rfl (by rw [cM, rdL_len, ← HC.out.1]; unfold maxLen; omega) u hu)
          have k0 := HF.out.c0
          have k1 := HF.out.c1
          cases hr : rightC (E : Int) (cM t) with
          | true =>
            have HRb := hid (HRt.out true hr)
            have HB : Hid (readB t = true) := hid (by rw [readB, ← HC.out.2.2, ← HC.out.2.1, decide_eq_true hH, decide_eq_true he, hr]; rfl)
            clear hH he hr hE
            go_wp2_with (first
              | (go_at_call 50; refine (HEnd.out).mono ?_; rintro e wx ⟨rfl, rfl⟩)
              | (go_at_call 23; refine (HRb.out _ (by exact HI.out)).mono ?_; rintro e w7 ⟨rfl, hb7⟩; have H7 := hid hb7; clear hb7
                 have q0 : w7.cell? ⟨b, 0, none⟩ = some (.int .i64 (E : Int)) := (H7.out.cell (p := ⟨b, 0, none⟩) (lt_of_blk HF.out.cf)).trans HF.out.c0
                 have q1 : w7.cell? ⟨b, 1, none⟩ = some (.slice ad (cM t).length cap) := (H7.out.cell (p := ⟨b, 1, none⟩) (lt_of_blk HF.out.cf)).trans HF.out.c1
                 have HR7 := hid ((H7.out.block _ (lt_of_blk HF.out.st.res)).trans HF.out.st.res)
                 have s0 : w7.cell? ⟨w.heap.size, 0, none⟩ = some (.int .i64 0) := cell_of_blk HR7.out 0 (by simp)
                 have s1 : w7.cell? ⟨w.heap.size, 1, none⟩ = some (.slice none 0 0) := cell_of_blk HR7.out 1 (by simp)
                 have g0 : w7.frozen? ⟨w.heap.size, 0, none⟩ = false := free_of_blk HR7.out 0
                 have g1 : w7.frozen? ⟨w.heap.size, 1, none⟩ = false := free_of_blk HR7.out 1))
            refine ret_cell2 (s := 2) (s2 := 3) (ad := ⟨w.heap.size, 0, none⟩) rfl rfl (load_conf _ _ (.int .i64 (E : Int)) (.slice ad (cM t).length cap) (cell_of_blk (res_set HR7.out) 0 (by simp)) (cell_of_blk (res_set HR7.out) 1 (by simp))) rfl rfl ?_
            have hb2 := HF.out.hb
            have ho' := own_low (own_setCell (own_setCell (ownsRow_keep HF.out.own H7.out) w.heap.size 0 (.int .i64 (E : Int)) (by omega)) w.heap.size 1 (.slice ad (cM t).length cap) (by omega)) (show w.heap.size ≤ b + 1 by omega)
            have hbl := ((HF.out.st.bel.trans (H7.out.mono HF.out.st.bel.size)).setCell (p := ⟨w.heap.size, 0, none⟩) (Nat.le_refl _) (.int .i64 (E : Int))).setCell (p := ⟨w.heap.size, 1, none⟩) (Nat.le_refl _) (.slice ad (cM t).length cap)
            rw [readZ, readM, readE, HB.out, ← HC.out.2.1]
            exact ⟨_, rfl, ⟨ho', hbl, hbl.size⟩⟩
          | false =>
            have HRb := hid (HRt.out false hr)
            have HB : Hid (readB t = false) := hid (by rw [readB, ← HC.out.2.1, hr]; simp)
            clear hH he hr hE
            go_wp2_with (first
              | (go_at_call 50; refine (HEnd.out).mono ?_; rintro e wx ⟨rfl, rfl⟩)
              | (go_at_call 23; refine (HRb.out _ (by exact HI.out)).mono ?_; rintro e w7 ⟨rfl, hb7⟩; have H7 := hid hb7; clear hb7
                 have q0 : w7.cell? ⟨b, 0, none⟩ = some (.int .i64 (E : Int)) := (H7.out.cell (p := ⟨b, 0, none⟩) (lt_of_blk HF.out.cf)).trans HF.out.c0
                 have q1 : w7.cell? ⟨b, 1, none⟩ = some (.slice ad (cM t).length cap) := (H7.out.cell (p := ⟨b, 1, none⟩) (lt_of_blk HF.out.cf)).trans HF.out.c1
                 have HR7 := hid ((H7.out.block _ (lt_of_blk HF.out.st.res)).trans HF.out.st.res)
                 have s0 : w7.cell? ⟨w.heap.size, 0, none⟩ = some (.int .i64 0) := cell_of_blk HR7.out 0 (by simp)
                 have s1 : w7.cell? ⟨w.heap.size, 1, none⟩ = some (.slice none 0 0) := cell_of_blk HR7.out 1 (by simp)
                 have g0 : w7.frozen? ⟨w.heap.size, 0, none⟩ = false := free_of_blk HR7.out 0
                 have g1 : w7.frozen? ⟨w.heap.size, 1, none⟩ = false := free_of_blk HR7.out 1))
            refine ret_cell2 (s := 2) (s2 := 3) (ad := ⟨w.heap.size, 0, none⟩) rfl rfl (load_conf _ _ (.int .i64 0) (.slice none 0 0) (cell_of_blk (res_set HR7.out) 0 (by simp)) (cell_of_blk (res_set HR7.out) 1 (by simp))) rfl rfl ?_
            rw [readZ, readM, readE, HB.out]
            have hbl := ((HF.out.st.bel.trans (H7.out.mono HF.out.st.bel.size)).setCell (p := ⟨w.heap.size, 0, none⟩) (Nat.le_refl _) (.int .i64 0)).setCell (p := ⟨w.heap.size, 1, none⟩) (Nat.le_refl _) (.slice none 0 0)
            exact ⟨_, rfl, OwnedI.nil hbl hbl.size⟩
        · have HB : Hid (readB t = false) := hid (by rw [readB, decide_eq_false he]; simp)
          generalize endOf (cF t).1 (cF t).2 = er at hE he
          have HEnd := hid hE
          clear hH hE
          go_wp2_with (go_at_call 50; refine (HEnd.out).mono ?_; rintro e wx ⟨rfl, rfl⟩)
          refine ret_cell2 (s := 2) (s2 := 3) (ad := ⟨w.heap.size, 0, none⟩) rfl rfl (load_conf _ _ (.int .i64 0) (.slice none 0 0) (cell_of_blk (res_set HF.out.st.res) 0 (by simp)) (cell_of_blk (res_set HF.out.st.res) 1 (by simp))) rfl rfl ?_
          rw [readZ, readM, readE, HB.out]
          have hbl := (HF.out.st.bel.setCell (p := ⟨w.heap.size, 0, none⟩) (Nat.le_refl _) (.int .i64 0)).setCell (p := ⟨w.heap.size, 1, none⟩) (Nat.le_refl _) (.slice none 0 0)
          exact ⟨_, rfl, OwnedI.nil hbl hbl.size⟩
      · have hH1 : ¬ ((H : Int) = 67) := by omega
        have HB : Hid (readB t = false) := hid (by rw [readB, ← HC.out.2.2, decide_eq_false hH]; rfl)
        clear hH
        go_wp2
        refine ret_cell2 (s := 2) (s2 := 3) (ad := ⟨w.heap.size, 0, none⟩) rfl rfl (load_conf _ _ (.int .i64 0) (.slice none 0 0) (cell_of_blk (res_set HF.out.st.res) 0 (by simp)) (cell_of_blk (res_set HF.out.st.res) 1 (by simp))) rfl rfl ?_
        rw [readZ, readM, readE, HB.out]
        have hbl := (HF.out.st.bel.setCell (p := ⟨w.heap.size, 0, none⟩) (Nat.le_refl _) (.int .i64 0)).setCell (p := ⟨w.heap.size, 1, none⟩) (Nat.le_refl _) (.slice none 0 0)
        exact ⟨_, rfl, OwnedI.nil hbl hbl.size⟩
    · have hj1 : (j : Int) < (N : Int) := by omega
      have hj0 : (0 : Int) ≤ (j : Int) := Int.natCast_nonneg _
      obtain ⟨y, ey⟩ : ∃ y, y = rN (rdS S.1 S.2 j).1 (rdS S.1 S.2 j).2 1 := ⟨_, rfl⟩
      have HL : Hid (rdL S.1 S.2 (j + 1) = rdL S.1 S.2 j ++ [(y : Int)]) := hid (by rw [rdL, ey])
      have HK : Hid (∀ u : World, CfSt w u (rdS S.1 S.2 j).1 (rdS S.1 S.2 j).2 b (E : Int) v (rdL S.1 S.2 j) → Calls Tryz.prog 45 #[.pointer (some ⟨w.heap.size + 1, 0, none⟩), .int .i64 1] u fun e w' => e = .returned (.int .i64 (y : Int)) ∧ CfSt w w' (rdS S.1 S.2 (j + 1)).1 (rdS S.1 S.2 (j + 1)).2 b (E : Int) v (rdL S.1 S.2 j)) := hid (fun u hu => (mnum_any _ _ _ 1 u hu.st.rd (by decide) (by decide)).mono fun e w' ⟨he, hr, hk⟩ => ⟨by rw [he, ey], hu.kept hk hr⟩)
      have HN : Hid ((rdL S.1 S.2 j).length + 1 ≤ 17592186044416) := hid (by rw [rdL_len]; omega)
      have c1 := HO.out.c1
      have HJ := hid (And.intro hj hjn)
      clear ey hj hjn
      go_wp2_with fail
      go_region_law
        ((first
          | (refine step_of rfl (owp_app_I _ _ rfl (b + 1) v _ (rdL S.1 S.2 j) rfl (by exact (H5.out.own.alloc _)) w5.heap.size (y : Int) rfl (by simp) (by have := lt_of_blk H5.out.cf; simp; omega) HN.out ?_); intro v6 w6 h6 g6; obtain ⟨ao6, n6, cp6, hv6⟩ : ∃ a n c, v6 = .slice a n c := (by rcases h6.out.2 with ⟨hv, _⟩ | ⟨g, cap, cur, hv, _⟩ <;> exact ⟨_, _, _, hv⟩); subst hv6; have H6 := hid (H5.out.put (l4 := rdL S.1 S.2 j ++ [(y : Int)]) (by have := h6.out; rwa [List.length_append]) g6.out); have z1 : w6.cell? ⟨b, 1, none⟩ = some v := (g6.out.cell_far _ (by have := lt_of_blk H5.out.cf; simp; omega) (fun e => by have := (H5.out.own.lt b e.symm).1; omega)).trans ((World.cell?_of_block (Below.heap_alloc w5 _ b (lt_of_blk H5.out.cf))).trans H5.out.c1); have f1 : w6.frozen? ⟨b, 1, none⟩ = false := (g6.out.frozen_far _ (by have := lt_of_blk H5.out.cf; simp; omega) (fun e => by have := (H5.out.own.lt b e.symm).1; omega)).trans ((World.frozen?_of_block (Below.heap_alloc w5 _ b (lt_of_blk H5.out.cf))).trans (free_of_blk H5.out.cf 1)); clear h6 g6)
          | (go_simp; go_at_call 45; refine (HK.out _ (by exact HO.out.drew)).mono ?_; rintro e w5 ⟨rfl, h5⟩; have H5 := hid h5; clear h5; have c5 := H5.out.c1; have c5a : ∀ o : Obj, (w5.alloc o).cell? ⟨b, 1, none⟩ = some v := fun o => (World.cell?_of_block (Below.heap_alloc w5 o b (lt_of_blk H5.out.cf))).trans H5.out.c1)))
      all_goals go_wp2
      all_goals
        go_roundw
        case rel => exact ⟨j + 1, _, by have := HJ.out; omega, by go_num, by rw [HL.out]; exact H6.out⟩
        case measure => simp [intOf]; omega
set_option maxRecDepth 100000 in
set_option maxHeartbeats 1600000 in
/-- The same configurations are the same. -/
theorem vsame_yes (ep : Int) (a1 a2 : Option Addr) (n c1 c2 : Nat) (l : List Int) (hn : l.length = n) (hm : n ≤ maxLen) (w : World) (h1 : IntsIn w a1 l) (h2 : IntsIn w a2 l) :
    Calls Tryz.prog 27 #[.agg #[.int .i64 ep, .slice a1 n c1], .agg #[.int .i64 ep, .slice a2 n c2]] w fun e w' => e = .returned (.bool true) ∧ Below w.heap.size w w' := by
  have HC : Hid (∀ u : World, IntsIn u a1 l → IntsIn u a2 l → Calls Tryz.prog 28 #[.slice a1 n c1, .slice a2 n c2] u fun e w' => e = .returned (.bool true) ∧ Below u.heap.size u w') := hid (fun u k1 k2 => sameInts_any a1 a2 n c1 c2 l hn hm u k1 k2)
  have HI := hid (And.intro h1 h2)
  clear h1 h2 hn hm
  go_enter Tryz.func27, Tryz.ntmps27
  go_wp2_with (go_at_call 28; refine (HC.out _ (by exact (HI.out.1.alloc _).alloc _) (by exact (HI.out.2.alloc _).alloc _)).mono ?_; rintro e w1 ⟨rfl, hb1⟩; have H1 := hid ((((Below.refl w.heap.size w).alloc (Nat.le_refl _) _).alloc (by simp) _).trans (hb1.mono (by simp; omega))); clear hb1)
  go_ret
  exact ⟨rfl, H1.out⟩
end Go.Proofs.YtecidbdbdnnglaaGreat
