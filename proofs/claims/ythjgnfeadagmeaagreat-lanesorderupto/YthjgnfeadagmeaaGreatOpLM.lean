/- Scripts of the lanes' laws as arguments; a step's kind, its first packet. -/
import Derived.Test.YthjgnfeadagmeaaGreatOa10
namespace Go.Proofs.YthjgnfeadagmeaaGreat
open Go.ChangeShapes Go.WideShapes Go.ChangeAt Go.RowKit

structure Ls where
  k : Int
  n : Int
  ps : List Pkt
def dLs (s : Ls) : List Dat := [.i s.k, .i s.n, .l 19 (s.ps.map dPk)]
def shStepL : Sh := .st (.c .i (.c .i (.c shPkts .u)))
def shStepsL : Sh := .l 40 3 shStepL
theorem of_stepL : shStepL.Of Tryz.prog (.inl 31) := ⟨_, Tryz.underlying31, by kernel_rfl, ⟨_, _, rfl, rfl, by kernel_rfl, Tryz.underlying3, ⟨_, _, rfl, rfl, by kernel_rfl, Tryz.underlying3, ⟨_, _, rfl, rfl, by kernel_rfl, of_pkts, rfl⟩⟩⟩⟩
theorem of_stepsL : shStepsL.Of Tryz.prog (.inl 23) := ⟨_, Tryz.underlying23, by kernel_rfl, by kernel_rfl, rfl, by decide, of_stepL⟩
def lsU (U : Nat) (s : Ls) : Prop := ∀ q, q ∈ s.ps → pkU U q
def lsT (s : Ls) : Nat := (s.ps.flatMap fun q => tmG q.2.2).length
def lsN (l : List Ls) : Nat := (l.map fun s => lsT s + s.ps.length + 1).sum
section
variable {S : Prop} {U : Nat}
theorem fitU_stepL {ds : List Dat} (h : Fits S U shStepL ds) : ∃ s : Ls, ds = dLs s ∧ lsU U s := by
  obtain ⟨d1, r1, rfl, ⟨k, rfl, _⟩, d2, r2, rfl, ⟨n, rfl, _⟩, d3, r3, rfl, h3, rfl⟩ := h
  obtain ⟨ps, rfl, _, hp⟩ := fitU_pkts h3
  exact ⟨⟨k, n, ps⟩, rfl, hp⟩
theorem fitU_stepsL {ds : List Dat} (h : Fits S U shStepsL ds) : ∃ l : List Ls, ds = [.l 3 (l.map dLs)] ∧ ∀ s, s ∈ l → lsU U s := by
  obtain ⟨es, rfl, h1, _, h2, h3⟩ := h
  obtain ⟨l, rfl, h4⟩ := fits_map (f := dLs) (Q := lsU U) es (fun d hd => fitU_stepL (h3 d hd))
  exact ⟨l, rfl, h4⟩
theorem bk_ls (l : List Ls) : lsN l ≤ bkLL (l.map dLs) := by
  induction l with
  | nil => exact Nat.le_refl _
  | cons s r ih =>
    rw [List.map_cons, bkLL]
    have h1 := bk_pks s.ps
    have h2 : bkL (dLs s) = bkLL (s.ps.map dPk) := by simp [dLs, bkL, Dat.bk]
    have h3 : lsN (s :: r) = (lsT s + s.ps.length + 1) + lsN r := by simp [lsN]
    unfold lsT at h3
    omega
end
section
variable {H : Type} {enc : TypeId × Value → H} {W : World} {fuel : Nat} {x : DataW H × List MemPlace}
theorem open_stepsL {ad : Option Addr} {len cap : Nat} (h : DataW.trod enc Tryz.prog W 0 (fun _ => true) true fuel 23 [.slice ad len cap] = some x) :
    ∃ l : List Ls, l.length = len ∧ Reads (fun _ => True) W (.slice ad len cap) (.l 3 (l.map dLs)) ∧ (∀ s, s ∈ l → lsU (Rows.uptoBulk x.1) s) ∧ lsN l ≤ Rows.uptoBulk x.1 := by
  obtain ⟨ds, hf, hc, hbk⟩ := (opens_sum Tryz.prog shStepsL).1 _ _ _ _ of_stepsL h
  obtain ⟨l, rfl, h3⟩ := fitU_stepsL hf
  obtain ⟨u0, e0, r0, _⟩ := hc 0 _ rfl
  cases e0
  obtain ⟨ad', cap', hv⟩ := r0.form
  rw [List.length_map] at hv
  cases hv
  have h9 := bk_ls l
  have h8 : bkL [Dat.l 3 (l.map dLs)] = bkLL (l.map dLs) := by simp [bkL, Dat.bk]
  exact ⟨l, rfl, r0, h3, by omega⟩
theorem open_intsL {ad : Option Addr} {len cap : Nat} (h : DataW.trod enc Tryz.prog W 0 (fun _ => true) true fuel 22 [.slice ad len cap] = some x) :
    ∃ l : List Int, l.length = len ∧ l.length ≤ Rows.uptoBulk x.1 ∧ IntsIn W ad l := by
  obtain ⟨ds, hf, hc, _⟩ := (opens_sum Tryz.prog shInts).1 _ _ _ _ of_ints h
  obtain ⟨l, rfl, _, h2⟩ := fitU_ints hf
  obtain ⟨u0, e0, r0, _⟩ := hc 0 _ rfl
  cases e0
  obtain ⟨ad', cap', hv, hi, _⟩ := reads_ints r0
  cases hv
  exact ⟨l, rfl, h2, hi⟩
end
theorem ls_at {F : Nat → Prop} {w : World} {v : Value} {l : List Ls} (h : Reads F w v (.l 3 (l.map dLs))) (j : Nat) (s : Ls) (hj : l[j]? = some s) :
    ∃ g off cap a c, v = .slice (some ⟨g, off, none⟩) l.length cap ∧ F g ∧ g < w.heap.size ∧ w.cell? ⟨g, off + j * 3, none⟩ = some (.int .i64 s.k) ∧ w.cell? ⟨g, off + j * 3 + 1, none⟩ = some (.int .i64 s.n) ∧ w.cell? ⟨g, off + j * 3 + 2, none⟩ = some (.slice a s.ps.length c) ∧ Reads F w (.slice a s.ps.length c) (.l 19 (s.ps.map dPk)) := by
  obtain ⟨g, off, cap, hv, hF, hg, _, hc⟩ := h.at j (dLs s) (by rw [List.getElem?_map, hj]; rfl)
  rw [List.length_map] at hv
  obtain ⟨u0, k0, r0⟩ := hc 0 _ rfl
  obtain ⟨u1, k1, r1⟩ := hc 1 _ rfl
  obtain ⟨u2, k2, r2⟩ := hc 2 _ rfl
  obtain rfl := r0.int
  obtain rfl := r1.int
  obtain ⟨a, c, e2⟩ := r2.form
  rw [List.length_map] at e2
  subst e2
  exact ⟨g, off, cap, a, c, hv, hF, hg, k0, k1, k2, r2⟩
def kd5 (k : Int) : Int := (k % 18446744073709551616) % 5
theorem kd5_is (k : Int) : kd5 k = 0 ∨ kd5 k = 1 ∨ kd5 k = 2 ∨ kd5 k = 3 ∨ kd5 k = 4 := by unfold kd5; omega
set_option maxRecDepth 100000 in
theorem nkind_any (k n : Int) (v : Value) (w : World) : Calls Tryz.prog 11 #[.agg #[.int .i64 k, .int .i64 n, v]] w fun e w' => e = .returned (.int .i64 (kd5 k)) ∧ Below w.heap.size w w' := by
  obtain ⟨wa, ha, hb, hx⟩ := one_newL [.int .i64 k, .int .i64 n, v] 31 w
  have y0 := hx.cell 0 _ rfl
  have HA := hid ha
  have HB := hid hb
  clear ha hb hx
  go_enter Tryz.func11, Tryz.ntmps11
  go_upto_region 1 with fail
  rw [HA.out]
  go_wp2
  go_ret
  refine ⟨?_, HB.out⟩
  have h1 : IntKind.u64.wrap k = k % 18446744073709551616 := IntKind.wrap_u64 k
  have h2 : (k % 18446744073709551616).tmod 5 = kd5 k := by unfold kd5; rw [Int.tmod_eq_emod_of_nonneg (by omega)]
  have h3 : wrap64 (kd5 k) = kd5 k := IntWalk.wrap64_in _ (by unfold kd5; omega)
  show Ending.returned (.int .i64 (wrap64 ((IntKind.u64.wrap k).tmod 5))) = _
  rw [h1, h2, h3]
/-- A step's first packet. -/
def zPt : Pkt := (0, 0, ⟨0, 0, 0, 0, zeroQ, (0, 0), ⟨#[]⟩, [], [], [], []⟩)
def fstP (s : Ls) : Pkt := s.ps.getD 0 zPt
def FstPost (F : Nat → Prop) (w w' : World) (ps : List Pkt) (e : Ending) : Prop := ∃ q a13 c13 a14 c14 a15 c15 a16 c16, q = ps.getD 0 zPt ∧ e = .returned (.agg (pkC q.1 q.2.1 q.2.2 (.slice a13 q.2.2.nx.length c13) (.slice a14 q.2.2.sg.length c14) (.slice a15 q.2.2.cg.length c15) (.slice a16 q.2.2.ln.length c16)).toArray) ∧ MsL F w' q.2.2 (.slice a13 q.2.2.nx.length c13) (.slice a14 q.2.2.sg.length c14) (.slice a15 q.2.2.cg.length c15) (.slice a16 q.2.2.ln.length c16) ∧ Below w.heap.size w w'
set_option maxRecDepth 100000 in
set_option maxHeartbeats 3200000 in
theorem nfirst_any {F : Nat → Prop} (k n : Int) (ps : List Pkt) (a : Option Addr) (c : Nat) (w : World) (hR : Reads F w (.slice a ps.length c) (.l 19 (ps.map dPk))) : Calls Tryz.prog 15 #[.agg #[.int .i64 k, .int .i64 n, .slice a ps.length c]] w fun e w' => FstPost F w w' ps e := by
  obtain ⟨nn, en⟩ : ∃ nn, nn = ps.length := ⟨_, rfl⟩
  rw [← en] at hR ⊢
  obtain ⟨wb, ha, hb, hx, hz⟩ := two_newL [.int .i64 k, .int .i64 n, .slice a nn c] zPk 31 50 w
  have y2 := hx.cell 2 _ rfl
  unfold zPk at ha
  have HA := hid ha
  have H0 := hid (And.intro hb hz)
  clear ha hb hx hz
  cases ps with
  | nil =>
    obtain rfl : nn = 0 := en
    clear hR
    go_enter Tryz.func15, Tryz.ntmps15
    go_upto_region 1 with fail
    rw [HA.out]
    go_wp2_with (refine wl_store_blk rfl 50 _ _ rfl (w.heap.size + 1) 0 rfl zPk.toArray rfl zPk 50 H0.out.2 (by simp [zPk]) (by kernel_rfl) (by simp [zPk, Value.oneCell']) ?_; go_must (intro w4 Hz; have H4 := Hz; clear Hz))
    refine ret_cell1 (s := 2) (ad := ⟨w.heap.size + 1, 0, none⟩) rfl rfl (load_whole (L := zPk) H4.out.1 _ Tryz.underlying50 rfl (by kernel_rfl)) rfl ?_
    exact ⟨zPt, none, 0, none, 0, none, 0, none, 0, rfl, rfl, ⟨.nil _ _ _, .nil _ _ _, .nil _ _ _, .nil _ _ _⟩, H4.out.2.below H0.out.1 (by omega)⟩
  | cons q r =>
    obtain ⟨g, off, _, a13, c13, a14, c14, a15, c15, a16, c16, ev, hF, hg, hcs, hml⟩ := pk_at hR 0 q rfl
    cases ev
    obtain ⟨A, eA⟩ : ∃ A, A = Value.agg (pkC q.1 q.2.1 q.2.2 (.slice a13 q.2.2.nx.length c13) (.slice a14 q.2.2.sg.length c14) (.slice a15 q.2.2.cg.length c15) (.slice a16 q.2.2.ln.length c16)).toArray := ⟨_, rfl⟩
    have HAg := hid eA
    have hcs2 : ∀ (i : Nat) (u : Value), (pkC q.1 q.2.1 q.2.2 (.slice a13 q.2.2.nx.length c13) (.slice a14 q.2.2.sg.length c14) (.slice a15 q.2.2.cg.length c15) (.slice a16 q.2.2.ln.length c16))[i]? = some u → wb.cell? ⟨g, off + i, none⟩ = some u := fun i u hu => (H0.out.1.cell (p := ⟨g, _, none⟩) hg).trans (by have := hcs i u hu; rw [Nat.zero_mul, Nat.add_zero] at this; exact this)
    have HCs := hid hcs2
    have HMl := hid hml
    have hn0 : (((r.length + 1 : Nat) : Int) == 0) = false := beq_eq_false_iff_ne.2 (by omega)
    simp only [List.length_cons] at *
    clear hR hcs hcs2 hml hF hg eA en
    go_enter Tryz.func15, Tryz.ntmps15
    go_upto_region 1 with fail
    rw [HA.out]
    go_wp2_with (first
      | (refine wl_store_blk rfl 50 _ _ rfl (w.heap.size + 1) 0 rfl _ HAg.out zPk 50 H0.out.2 (by simp [zPk, pkC, msC]) (by kernel_rfl) (by simp [pkC, msC, Value.oneCell']) ?_; go_must (intro w4 Hz; have H4 := Hz; clear Hz))
      | (refine wl_ldat rfl 50 _ rfl g off rfl (pkC q.1 q.2.1 q.2.2 (.slice a13 q.2.2.nx.length c13) (.slice a14 q.2.2.sg.length c14) (.slice a15 q.2.2.cg.length c15) (.slice a16 q.2.2.ln.length c16)) (fun i u hu => HCs.out i u hu) _ Tryz.underlying50 rfl (by kernel_rfl) A HAg.out ?_))
    refine ret_cell1 (s := 2) (ad := ⟨w.heap.size + 1, 0, none⟩) rfl rfl (load_whole (L := pkC q.1 q.2.1 q.2.2 (.slice a13 q.2.2.nx.length c13) (.slice a14 q.2.2.sg.length c14) (.slice a15 q.2.2.cg.length c15) (.slice a16 q.2.2.ln.length c16)) H4.out.1 _ Tryz.underlying50 rfl (by kernel_rfl)) rfl ?_
    have h4 : Below w.heap.size w w4 := H4.out.2.below H0.out.1 (by omega)
    exact ⟨q, a13, c13, a14, c14, a15, c15, a16, c16, rfl, rfl, HMl.out.under h4, h4⟩
end Go.Proofs.YthjgnfeadagmeaaGreat
