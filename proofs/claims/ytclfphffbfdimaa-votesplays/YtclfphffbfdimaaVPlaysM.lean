/- A tally, vote by vote, beside the document's. -/
import Derived.Test.YtclfphffbfdimaaVPpM
import Derived.Test.YtclfphffbfdimaaOpUM
import Derived.Deep.DeepMust
namespace Go.Proofs.Ytclfphffbfdimaa
open Go.RowKit

def VxAt (w : World) (p : Nat) (f : Int) (t : ByteArray) (v : Value) (z : Int) : Prop := w.heap[p]? = some (.cells #[.int .i64 f, .string t, v, .int .i64 z] 38 (0, 0))
theorem VxAt.cells {w : World} {p : Nat} {f : Int} {t : ByteArray} {v : Value} {z : Int} (h : VxAt w p f t v z) : w.cell? ⟨p, 0, none⟩ = some (.int .i64 f) ∧ w.cell? ⟨p, 1, none⟩ = some (.string t) ∧ w.cell? ⟨p, 2, none⟩ = some v ∧ w.cell? ⟨p, 3, none⟩ = some (.int .i64 z) := ⟨cell_at (L := [_, _, _, _]) h 0 _ rfl, cell_at (L := [_, _, _, _]) h 1 _ rfl, cell_at (L := [_, _, _, _]) h 2 _ rfl, cell_at (L := [_, _, _, _]) h 3 _ rfl⟩
theorem VxAt.keep {w w' : World} {p : Nat} {f : Int} {t : ByteArray} {v : Value} {z : Int} (h : VxAt w p f t v z) (hb : Below w.heap.size w w') : VxAt w' p f t v z := (hb.block p (lt_of_blk h)).trans h
theorem dt_row {D : Nat → Prop} {w : World} {gd : Nat} {ep : Int} {l : List Int} {rs : List Rv} (h : DtAt D w (.pointer (some ⟨gd, 0, none⟩)) ep l rs) : ∃ af cf, w.heap[gd]? = none ∨ ∀ u : World, Below w.heap.size w u → u.cell? ⟨gd, 2, none⟩ = some (.slice af rs.length cf) := by
  obtain ⟨R, g, am, cm, y, xs, hv, hr, h1, h2⟩ := h
  cases hv
  obtain ⟨af, cf, hy⟩ : ∃ af cf, y = .slice af xs.length cf := by
    rcases h1.row.2 with ⟨hv, h0⟩ | ⟨gg, cap2, cur, hv, _⟩
    · exact ⟨none, 0, by rw [hv, h0]⟩
    · exact ⟨_, _, hv⟩
  refine ⟨af, cf, .inr (fun u hu => ?_)⟩
  have := cell_at (L := [_, _, _]) ((hu.block _ (lt_of_blk h1.blk)).trans h1.blk) 2 _ rfl
  rw [this, hy, hr, List.length_map]
theorem wrap_j {x m : Int} (h0 : 0 ≤ x) (h1 : x < m) (h2 : m ≤ 9223372036854775807) : IntKind.i64.wrap (x + 1) = x + 1 := by
  simp [IntKind.wrap, IntKind.bits, IntKind.signed]
  omega
theorem dt_there {D : Nat → Prop} {w : World} {gd : Nat} {ep : Int} {l : List Int} {rs : List Rv} (h : DtAt D w (.pointer (some ⟨gd, 0, none⟩)) ep l rs) : w.heap[gd]?.isSome = true := by
  obtain ⟨R, g, am, cm, y, xs, hv, hr, h1, h2⟩ := h
  cases hv
  rw [h1.blk]
  rfl
theorem dt_settled {D : Nat → Prop} {w : World} {gd : Nat} {s : Ta} {rs : List Rv} (h : DtAt D w (.pointer (some ⟨gd, 0, none⟩)) s.ep s.mem rs) (hok : RvOk s rs) :
    Calls Try.prog 19 #[.pointer (some ⟨gd, 0, none⟩)] w fun e w' => ∃ v, e = .returned v ∧ SetAns w' s v ∧ Below w.heap.size w w' := by
  obtain ⟨R, g, am, cm, y, xs, hv, hr, h1, h2⟩ := h
  cases hv
  subst hr
  exact wsettledT_any R gd am cm y s.ep s.mem xs s hok rfl rfl w h1
set_option maxRecDepth 100000 in
set_option maxHeartbeats 3200000 in
theorem vplays_no (ep : Int) (a : Option Addr) (n cap : Nat) (l : List Int) (hn : l.length = n) (hm : n ≤ maxLen) (o : Option Addr) (no co : Nat) (hr : rightC ep l = false) (w : World) (hI : IntsIn w a l) :
    Calls Try.prog 4 #[.agg #[.int .i64 ep, .slice a n cap], .slice o no co] w fun e w' => e = .returned (.bool true) ∧ Below w.heap.size w w' := by
  have HL : Hid (∀ u : World, Calls Try.prog 9 #[] u fun e w' => e = .returned (.bool true) ∧ Below u.heap.size u w') := hid ulives_any
  have H0 : Hid (CvAt (w.alloc (.cells #[.int .i64 ep, .slice a n cap] 24)) w.heap.size ep (.slice a n cap) ∧ Below w.heap.size w (w.alloc (.cells #[.int .i64 ep, .slice a n cap] 24))) := hid ⟨heap_alloc_last w _, (Below.refl _ _).alloc (Nat.le_refl _) _⟩
  have HN : Hid (∀ u : World, Below w.heap.size w u → Calls Try.prog 12 #[.agg #[.int .i64 ep, .slice a n cap]] u fun e w' => e = .returned (.tuple #[.pointer none, .int .i64 1]) ∧ Below u.heap.size u w') := hid (fun u hu => vnew_no ep a n cap l hn hm u (hI.keep hu (Nat.le_refl _)) hr)
  have HM : Hid (∀ u : World, Below w.heap.size w u → Calls Try.prog 13 #[.agg #[.int .i64 ep, .slice a n cap]] u fun e w' => e = .returned (.tuple #[.pointer none, .int .i64 1]) ∧ Below u.heap.size u w') := hid (fun u hu => wnewT_no ep a n cap l hn hm u (hI.keep hu (Nat.le_refl _)) hr)
  clear hI hr
  go_enter Try.func4, Try.ntmps4
  go_wp2_with (first
    | (go_at_call 9; go_must (refine (HL.out _).mono ?_); rintro e w1 ⟨rfl, hb1⟩; have H1 : Hid (CvAt w1 w.heap.size ep (.slice a n cap) ∧ Below w.heap.size w w1) := hid ⟨H0.out.1.keep hb1, H0.out.2.trans (hb1.mono H0.out.2.size)⟩; obtain ⟨x0, x1⟩ := H1.out.1.cells; clear hb1)
    | (go_at_call 12; go_must (refine (HN.out _ H1.out.2).mono ?_); rintro e w2 ⟨rfl, hb2⟩; have H2 : Hid (CvAt w2 w.heap.size ep (.slice a n cap) ∧ Below w.heap.size w w2) := hid ⟨H1.out.1.keep hb2, H1.out.2.trans (hb2.mono H1.out.2.size)⟩; clear hb2 x0 x1; obtain ⟨x0, x1⟩ := H2.out.1.cells)
    | (go_at_call 13; go_must (refine (HM.out _ H2.out.2).mono ?_); rintro e w3 ⟨rfl, hb3⟩; have H3 := hid (H2.out.2.trans (hb3.mono H2.out.2.size)); clear hb3))
  go_ret
  exact ⟨rfl, H3.out⟩
set_option maxRecDepth 100000 in
set_option maxHeartbeats 12800000 in
theorem vplays_go (ep : Int) (a : Option Addr) (n cap : Nat) (l : List Int) (hn : l.length = n) (o : Option Addr) (no co : Nat) (os : List VtA) (hno : os.length = no) (hmo : no ≤ maxLen) (hos : ∀ x, x ∈ os → vtOw x) (hr : rightC ep l = true) (w : World) (hI : IntsIn w a l) (hO : VtsIn w o os) :
    Calls Try.prog 4 #[.agg #[.int .i64 ep, .slice a n cap], .slice o no co] w fun e w' => e = .returned (.bool true) ∧ Below w.heap.size w w' := by
  have hml := mem_len (rightC_ep hr).2
  have HL : Hid (∀ u : World, Calls Try.prog 9 #[] u fun e w' => e = .returned (.bool true) ∧ Below u.heap.size u w') := hid ulives_any
  have H0 : Hid (CvAt (w.alloc (.cells #[.int .i64 ep, .slice a n cap] 24)) w.heap.size ep (.slice a n cap) ∧ Below w.heap.size w (w.alloc (.cells #[.int .i64 ep, .slice a n cap] 24))) := hid ⟨heap_alloc_last w _, (Below.refl _ _).alloc (Nat.le_refl _) _⟩
  have HN : Hid (∀ u : World, Below w.heap.size w u → Calls Try.prog 12 #[.agg #[.int .i64 ep, .slice a n cap]] u fun e w' => ∃ g F, e = .returned (.tuple #[.pointer (some ⟨g, 0, none⟩), .int .i64 0]) ∧ TlAt F w' (.pointer (some ⟨g, 0, none⟩)) ⟨ep, l, []⟩ ∧ (∀ b, b ∈ F → u.heap.size ≤ b) ∧ Below u.heap.size u w') := hid (fun u hu => vnew_yes ep a n cap l hn u (hI.keep hu (Nat.le_refl _)) hr)
  have HM : Hid (∀ u : World, Below w.heap.size w u → Calls Try.prog 13 #[.agg #[.int .i64 ep, .slice a n cap]] u fun e w' => ∃ g D, e = .returned (.tuple #[.pointer (some ⟨g, 0, none⟩), .int .i64 0]) ∧ DtAt D w' (.pointer (some ⟨g, 0, none⟩)) ep l [] ∧ (∀ k, D k → u.heap.size ≤ k) ∧ Below u.heap.size u w') := hid (fun u hu => wnewT_yes ep a n cap l hn u (hI.keep hu (Nat.le_refl _)) hr)
  have HR0 : Hid (RvOk ⟨ep, l, []⟩ []) := hid (RvOk.new hr)
  have HP := hid (And.intro hml (And.intro hn hos))
  have HI := hid (And.intro hI (And.intro hO hno))
  have hmo3 : (no : Int) ≤ 9223372036854775807 := by unfold maxLen at hmo; omega
  clear hI hO hml hr hno hmo hos
  go_enter Try.func4, Try.ntmps4
  go_wp2_with (first
    | (go_at_call 9; go_must (refine (HL.out _).mono ?_); rintro e w1 ⟨rfl, hb1⟩; have H1 : Hid (CvAt w1 w.heap.size ep (.slice a n cap) ∧ Below w.heap.size w w1) := hid ⟨H0.out.1.keep hb1, H0.out.2.trans (hb1.mono H0.out.2.size)⟩; obtain ⟨x0, x1⟩ := H1.out.1.cells; clear hb1)
    | (go_at_call 12; go_must (refine (HN.out _ H1.out.2).mono ?_); rintro e w2 ⟨g, F, rfl, ht2, hf2, hb2⟩; have H2 : Hid (CvAt w2 w.heap.size ep (.slice a n cap) ∧ Below w.heap.size w w2 ∧ TlAt F w2 (.pointer (some ⟨g, 0, none⟩)) ⟨ep, l, []⟩ ∧ ∀ b, b ∈ F → w.heap.size < b) := hid ⟨H1.out.1.keep hb2, H1.out.2.trans (hb2.mono H1.out.2.size), ht2, fun b hb => Nat.lt_of_lt_of_le (lt_of_blk H1.out.1) (hf2 b hb)⟩; clear hb2 ht2 hf2 x0 x1; obtain ⟨x0, x1⟩ := H2.out.1.cells)
    | (go_at_call 13; go_must (refine (HM.out _ H2.out.2.1).mono ?_); rintro e w3 ⟨gd, D, rfl, hd3, hf3, hb3⟩; have H3 : Hid (PvS w w3 F D (.pointer (some ⟨g, 0, none⟩)) (.pointer (some ⟨gd, 0, none⟩)) ⟨ep, l, []⟩ ep l [] (.slice a n cap)) := hid ⟨H2.out.2.2.1.keep hb3, hd3, H2.out.1.keep hb3, H2.out.2.1.trans (hb3.mono H2.out.2.1.size), H2.out.2.2.2, fun k hk => Nat.lt_of_lt_of_le (lt_of_blk H2.out.1) (hf3 k hk), fun k hk hm => by have := H2.out.2.2.1.lt k hm; have := hf3 k hk; omega⟩; clear hb3 hd3 hf3 x0 x1))
  clear H2 H1
  go_loopw [9] (fun i wr => ∃ (j : Nat) (s : Ta) (rs : List Rv) (D : Nat → Prop), j ≤ no ∧ i = .int .i64 (j : Int) ∧ PvS w wr F D (.pointer (some ⟨g, 0, none⟩)) (.pointer (some ⟨gd, 0, none⟩)) s ep l rs (.slice a n cap) ∧ RvOk s rs ∧ s.ep = ep ∧ s.mem = l) (fun i _ => ((no : Int) - intOf i).toNat)
  case atStart => exact ⟨0, _, _, D, by omega, rfl, H3.out, HR0.out, rfl, rfl⟩
  case round =>
    obtain ⟨j, s, rs, D, hj, rfl, hst, hok, hse, hsm⟩ := hrel
    by_cases hjn : j = no
    · have hj1 : ¬ ((j : Int) < (no : Int)) := by omega
      have HS := hid hst
      clear hst hj hjn hok hse hsm
      go_wp2
      go_ret
      exact ⟨rfl, HS.out.bel⟩
    · have hj1 : (j : Int) < (no : Int) := by omega
      have hj0 : (0 : Int) ≤ (j : Int) := Int.natCast_nonneg _
      have hjl : j < os.length := by have := HI.out.2.2; omega
      obtain ⟨x, hx⟩ : ∃ x, os[j]? = some x := ⟨_, List.getElem?_eq_getElem hjl⟩
      obtain ⟨ga, off, aj, cj, rfl, hga, ⟨e0, e1, e2, e3⟩, hij⟩ := HI.out.2.1 j x hx
      have hvt := HP.out.2.2 x (List.mem_of_getElem? hx)
      obtain ⟨f, t, nx, z⟩ := x
      have c0 : wr.cell? ⟨ga, off + j * 4, none⟩ = some (.int .i64 f) := (hst.bel.cell (p := ⟨ga, _, none⟩) hga).trans e0
      have c1 : wr.cell? ⟨ga, off + j * 4 + 1, none⟩ = some (.string t) := (hst.bel.cell (p := ⟨ga, _, none⟩) hga).trans e1
      have c2 : wr.cell? ⟨ga, off + j * 4 + 2, none⟩ = some (.slice aj nx.length cj) := (hst.bel.cell (p := ⟨ga, _, none⟩) hga).trans e2
      have c3 : wr.cell? ⟨ga, off + j * 4 + 3, none⟩ = some (.int .i64 z) := (hst.bel.cell (p := ⟨ga, _, none⟩) hga).trans e3
      have ht : t.size ≤ 140737488355328 := Nat.le_trans hvt.1.1 (by decide)
      have hmx : n ≤ maxLen := by have := HP.out.1; have := HP.out.2.1; unfold maxLen; omega
      obtain ⟨SG, eSG⟩ : ∃ SG, SG = sgOf f (voS ep l t nx) (voC ep l t nx) z := ⟨_, rfl⟩
      have HG : Hid (∀ u : World, Below w.heap.size w u → Calls Try.prog 14 #[.agg #[.int .i64 f, .string t, .slice aj nx.length cj, .int .i64 z], .agg #[.int .i64 ep, .slice a n cap]] u fun e w' => ∃ ad cd, e = .returned (.slice ad SG.length cd) ∧ NwP u.heap.size w' ad SG ∧ Below u.heap.size u w') := hid (fun u hu => by
        have := usigs_any f t ht aj nx.length cj nx rfl hvt.1.2 z ep a n cap l HP.out.2.1 hmx u (HI.out.1.keep hu (Nat.le_refl _)) (hij.keep hu (Nat.le_refl _))
        rw [← eSG] at this
        exact this)
      have hSG : SG.length ≤ 3 := by rw [eSG, sgOf]; split <;> (try split) <;> (try split) <;> (try split) <;> simp
      have hSm : SG.length ≤ maxLen := by unfold maxLen; omega
      obtain ⟨s2, es2⟩ : ∃ s2, s2 = added s f t nx SG := ⟨_, rfl⟩
      obtain ⟨E, eE⟩ : ∃ E, E = addE s f t nx SG := ⟨_, rfl⟩
      have hep2 := added_ep s f t nx SG
      have HAd : Hid (∀ (u : World) (ad a4 : Option Addr) (cd c4 : Nat), TlAt F u (.pointer (some ⟨g, 0, none⟩)) s → IntsIn u a4 nx → PairsIn u ad SG → Calls Try.prog 15 #[.pointer (some ⟨g, 0, none⟩), .int .i64 f, .string t, .slice a4 nx.length c4, .slice ad SG.length cd] u fun e w' => e = .returned (.int .i64 E) ∧ TlAt F w' (.pointer (some ⟨g, 0, none⟩)) s2 ∧ Out F u w') := hid (fun u ad a4 cd c4 ht2 hi hp => by
        have := vadd_at F _ s f t ht a4 nx.length c4 nx rfl hvt.1.2 ad SG.length cd SG rfl hSm u ht2 hi hp
        rw [← es2, ← eE] at this
        exact this)
      have hrl : rs.length ≤ 1000 := by
        have h1 := hok.ok.len
        rw [hok.vs, List.length_map] at h1
        have := hok.ok.mlen.2
        omega
      have HDd : Hid (∀ (u : World) (ad : Option Addr) (cd : Nat), DtAt D u (.pointer (some ⟨gd, 0, none⟩)) ep l rs → Below w.heap.size w u → PairsIn u ad SG → Calls Try.prog 16 #[.pointer (some ⟨gd, 0, none⟩), .int .i64 f, .string t, .slice aj nx.length cj, .slice ad SG.length cd] u fun e w' => ∃ D' rs', e = .returned (.int .i64 E) ∧ DtAt D' w' (.pointer (some ⟨gd, 0, none⟩)) ep l rs' ∧ RvOk s2 rs' ∧ (∀ k, D' k → D k ∨ u.heap.size ≤ k) ∧ OutP D u w') := hid (fun u ad cd hd hu hp => by
        have := waddT_at D (.pointer (some ⟨gd, 0, none⟩)) s rs hok f t ht aj nx.length cj nx rfl hvt.1.2 ad SG.length cd SG rfl hSm hrl hok.ok.mlen.2 u (by rw [hse, hsm]; exact hd) (hij.keep hu (Nat.le_refl _)) hp
        rw [← es2, ← eE, hse, hsm] at this
        exact this)
      have H2e : Hid (s2.ep = ep ∧ s2.mem = l) := hid ⟨by rw [es2]; exact hep2.1.trans hse, by rw [es2]; exact hep2.2.trans hsm⟩
      have HIn : Hid (∀ u : World, Below w.heap.size w u → IntsIn u aj nx) := hid (fun u hu => hij.keep hu (Nat.le_refl _))
      have HB9 := hid hvt.2
      have HSg := hid hSG
      have hnx : (nx.length : Int) ≤ 17592186043904 := by have := hvt.2; simp only at this; omega
      have hsgi : (SG.length : Int) ≤ 3 := by omega
      have HJ := hid (And.intro hj hjn)
      have hbb : Below wr.heap.size wr (wr.alloc (.cells #[.int .i64 f, .string t, .slice aj nx.length cj, .int .i64 z] 38)) := (Below.refl _ _).alloc (Nat.le_refl _) _
      have HB : Hid (PvS w (wr.alloc (.cells #[.int .i64 f, .string t, .slice aj nx.length cj, .int .i64 z] 38)) F D (.pointer (some ⟨g, 0, none⟩)) (.pointer (some ⟨gd, 0, none⟩)) s ep l rs (.slice a n cap) ∧ VxAt (wr.alloc (.cells #[.int .i64 f, .string t, .slice aj nx.length cj, .int .i64 z] 38)) wr.heap.size f t (.slice aj nx.length cj) z) := hid ⟨hst.keep hbb, heap_alloc_last wr _⟩
      have HNot : Hid (wr.heap.size ∉ F ∧ ¬ D wr.heap.size) := hid ⟨fun hm => Nat.lt_irrefl _ (hst.tl.lt _ hm), fun hm => Nat.lt_irrefl _ (hst.dt.lt _ hm)⟩
      clear hst hok hse hsm hj hjn hjl hx hga e0 e1 e2 e3 hij hvt ht hmx eSG hSG hSm es2 eE hep2 hrl hbb H3
      go_wp2_with (first
        | (at_builtin; refine wl_ownI rfl _ _ rfl rfl aj nx.length cj nx rfl rfl (HIn.out _ HB.out.1.bel) HB9.out ?_; intro v4 w4 h4; go_must (have hb4 := h4.out.bel; obtain ⟨ad4, cp4, rfl, hi4⟩ := h4.out.new; have H4 : Hid (PvS w w4 F D (.pointer (some ⟨g, 0, none⟩)) (.pointer (some ⟨gd, 0, none⟩)) s ep l rs (.slice a n cap) ∧ VxAt w4 wr.heap.size f t (.slice aj nx.length cj) z ∧ IntsIn w4 ad4 nx ∧ WrC w w4 F D ad4 nx.length) := hid ⟨HB.out.1.keep hb4, HB.out.2.keep hb4, hi4.ints, HB.out.1.newI (Nat.le_refl _) hi4⟩); clear h4 hb4 hi4; obtain ⟨y0, y1, y2, y3⟩ := H4.out.2.1.cells; obtain ⟨x0, x1⟩ := H4.out.1.cf.cells)
        | (go_at_call 14; go_must (refine (HG.out _ H4.out.1.bel).mono ?_); rintro e w5 ⟨ad5, cd5, rfl, hp5, hb5⟩; have H5 : Hid (PvS w w5 F D (.pointer (some ⟨g, 0, none⟩)) (.pointer (some ⟨gd, 0, none⟩)) s ep l rs (.slice a n cap) ∧ VxAt w5 wr.heap.size f t (.slice aj nx.length cj) z ∧ (IntsIn w5 ad4 nx ∧ WrC w w5 F D ad4 nx.length) ∧ PairsIn w5 ad5 SG ∧ WrC w w5 F D ad5 (2 * SG.length)) := hid ⟨H4.out.1.keep hb5, H4.out.2.1.keep hb5, ⟨H4.out.2.2.1.keep hb5 (Nat.le_refl _), H4.out.2.2.2.keep hb5⟩, hp5.1, H4.out.1.nwP (Nat.le_refl _) hp5⟩; clear hb5 hp5 y0 y1 y2 y3 x0 x1))
      clear c0 c1 c2 c3
      have HS5 : Hid (VxAt w5.drew wr.heap.size f t (.slice aj nx.length cj) z ∧ CvAt w5.drew w.heap.size ep (.slice a n cap)) := hid ⟨H5.out.2.1, H5.out.1.cf⟩
      have H5d : Hid (PvS w w5.drew F D (.pointer (some ⟨g, 0, none⟩)) (.pointer (some ⟨gd, 0, none⟩)) s ep l rs (.slice a n cap) ∧ (IntsIn w5.drew ad4 nx ∧ WrC w w5.drew F D ad4 nx.length) ∧ PairsIn w5.drew ad5 SG ∧ WrC w w5.drew F D ad5 (2 * SG.length)) := hid (by have hb := (Below.refl w5.heap.size w5).drew; exact ⟨H5.out.1.keep hb, ⟨H5.out.2.2.1.1.keep hb (Nat.le_refl _), H5.out.2.2.1.2.keep hb⟩, H5.out.2.2.2.1.keep hb (Nat.le_refl _), H5.out.2.2.2.2.keep hb⟩)
      refine wp_region_G (S := fun ww => VxAt ww wr.heap.size f t (.slice aj nx.length cj) z ∧ CvAt ww w.heap.size ep (.slice a n cap)) (ex := []) (by kernel_rfl) ?_
      try (change wpAnyG _ _ _ _ _ _ _ _ _ (World.drew _))
      refine wpAnyG_take (i := 0) (v := ?v1) rfl (by kernel_rfl) (fun _ _ _ h => h) (Or.inl ⟨by rfl, ?hy1⟩) HS5.out ?rest1
      case hy1 => (intro ww _; go_simp; try with_reducible rfl)
      go_simp
      refine wpAnyG_take (i := 1) (v := ?v2) rfl (by kernel_rfl) (fun _ _ _ h => h) (Or.inl ⟨by rfl, ?hy2⟩) HS5.out ?rest2
      case hy2 => (intro ww _; go_simp; try with_reducible rfl)
      go_simp
      refine wpAnyG_take (i := 2) (v := ?v3) rfl (by kernel_rfl) (fun _ _ _ h => h) (Or.inl ⟨by rfl, ?hy3⟩) HS5.out ?rest3
      case hy3 => (intro ww hS; obtain ⟨y0, y1, y2, y3⟩ := hS.1.cells; obtain ⟨y4, y5⟩ := hS.2.cells; go_simp; try with_reducible rfl)
      go_simp
      refine wpAnyG_take (i := 3) (v := ?v4) rfl (by kernel_rfl) (fun _ _ _ h => h) (Or.inl ⟨by rfl, ?hy4⟩) HS5.out ?rest4
      case hy4 => (intro ww _; go_simp; try with_reducible rfl)
      go_simp
      refine wpAnyG_take (i := 4) (v := ?v5) rfl (by kernel_rfl) (fun _ _ _ h => h) (Or.inl ⟨by rfl, ?hy5⟩) HS5.out ?rest5
      case hy5 => (intro ww hS; obtain ⟨y0, y1, y2, y3⟩ := hS.1.cells; obtain ⟨y4, y5⟩ := hS.2.cells; go_simp; try with_reducible rfl)
      go_simp
      refine wpAnyG_take (i := 5) (v := ?v6) rfl (by kernel_rfl) (fun _ _ _ h => h) (Or.inl ⟨by rfl, ?hy6⟩) HS5.out ?rest6
      case hy6 => (intro ww _; go_simp; try with_reducible rfl)
      go_simp
      refine wpAnyG_take (i := 6) (v := ?v7) rfl (by kernel_rfl) (fun _ _ _ h => h) (Or.inl ⟨by rfl, ?hy7⟩) HS5.out ?rest7
      case hy7 => (intro ww _; go_simp; try with_reducible rfl)
      go_simp
      refine wpAnyG_take (i := 8) (v := ?v8) rfl (by kernel_rfl) (fun _ _ _ h => h) (Or.inl ⟨by rfl, ?hy8⟩) HS5.out ?rest8
      case hy8 => (intro ww _; go_simp; try with_reducible rfl)
      go_simp
      refine wpAnyG_take (i := 9) (v := ?v9) rfl (by kernel_rfl) (fun _ _ _ h => h) (Or.inl ⟨by rfl, ?hy9⟩) HS5.out ?rest9
      case hy9 => (intro ww _; go_simp; try with_reducible rfl)
      go_simp
      refine wpAnyG_take (i := 10) (v := ?v10) rfl (by kernel_rfl) (fun _ _ _ h => h) (Or.inl ⟨by rfl, ?hy10⟩) HS5.out ?rest10
      case hy10 => (intro ww hS; obtain ⟨y0, y1, y2, y3⟩ := hS.1.cells; obtain ⟨y4, y5⟩ := hS.2.cells; go_simp; try with_reducible rfl)
      go_simp
      refine wpAnyG_take (i := 11) (v := ?v11) rfl (by kernel_rfl) (fun _ _ _ h => h) (Or.inl ⟨by rfl, ?hy11⟩) HS5.out ?rest11
      case hy11 => (intro ww _; go_simp; try with_reducible rfl)
      go_simp
      refine wpAnyG_take (i := 12) (v := ?v12) rfl (by kernel_rfl) (fun _ _ _ h => h) (Or.inl ⟨by rfl, ?hy12⟩) HS5.out ?rest12
      case hy12 => (intro ww hS; obtain ⟨y0, y1, y2, y3⟩ := hS.1.cells; obtain ⟨y4, y5⟩ := hS.2.cells; go_simp; try with_reducible rfl)
      go_simp
      refine wpAnyG_take (i := 13) (v := ?v13) rfl (by kernel_rfl) (fun _ _ _ h => h) (Or.inl ⟨by rfl, ?hy13⟩) HS5.out ?rest13
      case hy13 => (intro ww _; go_simp; try with_reducible rfl)
      go_simp
      refine wpAnyG_take (i := 14) (v := ?v14) rfl (by kernel_rfl) (fun _ _ _ h => h) (Or.inl ⟨by rfl, ?hy14⟩) HS5.out ?rest14
      case hy14 => (intro ww hS; obtain ⟨y0, y1, y2, y3⟩ := hS.1.cells; obtain ⟨y4, y5⟩ := hS.2.cells; go_simp; try with_reducible rfl)
      go_simp
      refine wpAnyG_take (i := 15) (v := ?v15) rfl (by kernel_rfl) (fun _ _ _ h => h) (Or.inl ⟨by rfl, ?hy15⟩) HS5.out ?rest15
      case hy15 => (intro ww hS; obtain ⟨y0, y1, y2, y3⟩ := hS.1.cells; obtain ⟨y4, y5⟩ := hS.2.cells; go_simp; try with_reducible rfl)
      go_simp
      refine wpAnyG_take (i := 16) (v := ?v16) rfl (by kernel_rfl) (fun _ _ _ h => h) (Or.inl ⟨by rfl, ?hy16⟩) HS5.out ?rest16
      case hy16 => (intro ww hS; obtain ⟨y0, y1, y2, y3⟩ := hS.1.cells; obtain ⟨y4, y5⟩ := hS.2.cells; go_simp; try with_reducible rfl)
      go_simp
      refine wpAnyG_all (rs := [7]) (by kernel_rfl) (by simp) ?_
      intro i hi
      obtain rfl := List.mem_singleton.1 hi
      clear hi
      refine wpOp_v rfl (by rfl) (fun K hK => ?_)
      go_simp
      refine (HAd.out _ _ _ _ _ H5d.out.1.tl H5d.out.2.1.1 H5d.out.2.2.1).mono ?_
      rintro e w7 ⟨rfl, ht7, ho7⟩
      have H7 : Hid (PvS w w7 F D (.pointer (some ⟨g, 0, none⟩)) (.pointer (some ⟨gd, 0, none⟩)) s2 ep l rs (.slice a n cap) ∧ VxAt w7 wr.heap.size f t (.slice aj nx.length cj) z ∧ WrC w w7 F D ad4 nx.length ∧ WrC w w7 F D ad5 (2 * SG.length)) := hid ⟨H5d.out.1.addP ho7 ht7, (ho7.block _ (lt_of_blk HS5.out.1) HNot.out.1).trans HS5.out.1, H5d.out.2.1.2.addP ho7, H5d.out.2.2.2.addP ho7⟩
      clear ht7 ho7
      refine hK _ _ ⟨fun _ => ⟨H7.out.2.1, H7.out.1.cf⟩, ?_⟩
      clear hK K
      go_simp
      refine wpAnyG_all (rs := [17]) (by kernel_rfl) (by simp) ?_
      intro i hi
      obtain rfl := List.mem_singleton.1 hi
      clear hi
      refine wpOp_v rfl (by rfl) (fun K hK => ?_)
      go_simp
      refine (HG.out _ H7.out.1.bel).mono ?_
      rintro e w8 ⟨ad8, cd8, rfl, hp8, hb8⟩
      have H8 : Hid (PvS w w8 F D (.pointer (some ⟨g, 0, none⟩)) (.pointer (some ⟨gd, 0, none⟩)) s2 ep l rs (.slice a n cap) ∧ VxAt w8 wr.heap.size f t (.slice aj nx.length cj) z ∧ WrC w w8 F D ad4 nx.length ∧ WrC w w8 F D ad5 (2 * SG.length) ∧ PairsIn w8 ad8 SG) := hid ⟨H7.out.1.keep hb8, H7.out.2.1.keep hb8, H7.out.2.2.1.keep hb8, H7.out.2.2.2.keep hb8, hp8.1⟩
      clear hp8 hb8
      refine hK _ _ ⟨fun _ => ⟨H8.out.2.1, H8.out.1.cf⟩, ?_⟩
      clear hK K
      go_simp
      refine wpAnyG_all (rs := [18]) (by kernel_rfl) (by simp) ?_
      intro i hi
      obtain rfl := List.mem_singleton.1 hi
      clear hi
      refine wpOp_v rfl (by rfl) (fun K hK => ?_)
      go_simp
      refine (HDd.out _ _ _ H8.out.1.dt H8.out.1.bel H8.out.2.2.2.2).mono ?_
      rintro e w9 ⟨D2, rs2, rfl, hd9, hok9, hD9, ho9⟩
      have H9 : Hid (PvS w w9 F D2 (.pointer (some ⟨g, 0, none⟩)) (.pointer (some ⟨gd, 0, none⟩)) s2 ep l rs2 (.slice a n cap) ∧ VxAt w9 wr.heap.size f t (.slice aj nx.length cj) z ∧ WrC w w9 F D2 ad4 nx.length ∧ WrC w w9 F D2 ad5 (2 * SG.length)) := hid ⟨H8.out.1.addD ho9 hd9 hD9, (ho9.block _ (lt_of_blk H8.out.2.1) HNot.out.2).trans H8.out.2.1, H8.out.2.2.1.addD ho9 hD9, H8.out.2.2.2.1.addD ho9 hD9⟩
      have HOk := hid hok9
      clear hd9 hok9 hD9 ho9
      refine hK _ _ ⟨fun _ => ⟨H9.out.2.1, H9.out.1.cf⟩, ?_⟩
      clear hK K
      go_simp
      obtain ⟨af, cf, hrow0⟩ := dt_row H9.out.1.dt
      have hrow : ∀ u : World, Below w9.heap.size w9 u → u.cell? ⟨gd, 2, none⟩ = some (.slice af rs2.length cf) := by
        rcases hrow0 with h | h
        · have := dt_there H9.out.1.dt; rw [h] at this; cases this
        · exact h
      have HRow := hid hrow
      clear hrow hrow0
      have HCt : Hid (∀ u : World, TlAt F u (.pointer (some ⟨g, 0, none⟩)) s2 → Calls Try.prog 17 #[.pointer (some ⟨g, 0, none⟩)] u fun e w' => e = .returned (.int .i64 (rs2.length : Int)) ∧ Below u.heap.size u w') := hid (fun u hu => by
        have := vcount_at F _ _ u hu
        rw [HOk.out.vs, List.length_map] at this
        exact this)
      have hrs2 : (rs2.length : Int) ≤ 1000 := by
        have h1 := HOk.out.ok.len
        rw [HOk.out.vs, List.length_map] at h1
        have := HOk.out.ok.mlen.2
        omega
      refine wpAnyG_take (i := 19) (v := ?v17) rfl (by kernel_rfl) (fun _ _ _ h => h) (Or.inl ⟨by rfl, ?hy17⟩) ⟨H9.out.2.1, H9.out.1.cf⟩ ?rest17
      case hy17 => (intro ww _; go_simp; try with_reducible rfl)
      go_simp
      refine wpAnyG_take (i := 20) (v := ?v18) rfl (by kernel_rfl) (fun _ _ _ h => h) (Or.inl ⟨by rfl, ?hy18⟩) ⟨H9.out.2.1, H9.out.1.cf⟩ ?rest18
      case hy18 => (intro ww _; go_simp; try with_reducible rfl)
      go_simp
      refine wpAnyG_take (i := 21) (v := ?v19) rfl (by kernel_rfl) (fun _ _ _ h => h) (Or.inl ⟨by rfl, ?hy19⟩) ⟨H9.out.2.1, H9.out.1.cf⟩ ?rest19
      case hy19 => (intro ww _; go_simp; try with_reducible rfl)
      go_simp
      refine wpAnyG_take (i := 23) (v := ?v20) rfl (by kernel_rfl) (fun _ _ _ h => h) (Or.inl ⟨by rfl, ?hy20⟩) ⟨H9.out.2.1, H9.out.1.cf⟩ ?rest20
      case hy20 => (intro ww _; go_simp; try with_reducible rfl)
      go_simp
      refine wpAnyG_take (i := 24) (v := ?v21) rfl (by kernel_rfl) (fun _ _ _ h => h) (Or.inl ⟨by rfl, ?hy21⟩) ⟨H9.out.2.1, H9.out.1.cf⟩ ?rest21
      case hy21 => (intro ww _; go_simp; try with_reducible rfl)
      go_simp
      refine wpAnyG_take (i := 25) (v := ?v22) rfl (by kernel_rfl) (fun _ _ _ h => h) (Or.inl ⟨by rfl, ?hy22⟩) ⟨H9.out.2.1, H9.out.1.cf⟩ ?rest22
      case hy22 => (intro ww _; go_simp; try with_reducible rfl)
      go_simp
      refine wpAnyG_all (rs := [22, 26]) (by kernel_rfl) (by simp) ?_
      intro i hi
      rcases List.mem_cons.1 hi with rfl | hi
      · clear hi
        refine wpOp_v rfl (by rfl) (fun K hK => ?_)
        go_simp
        refine (HCt.out _ H9.out.1.tl).mono ?_
        rintro e w10 ⟨rfl, hb10⟩
        have H10 : Hid (PvS w w10 F D2 (.pointer (some ⟨g, 0, none⟩)) (.pointer (some ⟨gd, 0, none⟩)) s2 ep l rs2 (.slice a n cap) ∧ VxAt w10 wr.heap.size f t (.slice aj nx.length cj) z ∧ WrC w w10 F D2 ad4 nx.length ∧ WrC w w10 F D2 ad5 (2 * SG.length)) := hid ⟨H9.out.1.keep hb10, H9.out.2.1.keep hb10, H9.out.2.2.1.keep hb10, H9.out.2.2.2.keep hb10⟩
        have yr := HRow.out _ hb10
        clear hb10
        refine hK _ _ ⟨fun _ => ⟨H10.out.2.1, H10.out.1.cf⟩, ?_⟩
        clear hK K
        go_simp
        refine wpAnyG_all (rs := [26]) (by kernel_rfl) (by simp) ?_
        intro i hi
        obtain rfl := List.mem_singleton.1 hi
        clear hi
        refine wpOp_v rfl (by rfl) (fun K hK => ?_)
        go_simp
        refine hK _ _ ⟨fun _ => ⟨H10.out.2.1, H10.out.1.cf⟩, ?_⟩
        clear hK K
        go_simp
        refine wpAnyG_take (i := 27) (v := ?v101) rfl (by kernel_rfl) (fun _ _ _ h => h) (Or.inl ⟨by rfl, ?hy101⟩) ⟨H10.out.2.1, H10.out.1.cf⟩ ?rest101
        case hy101 => (intro ww _; go_simp; try with_reducible rfl)
        go_simp
        refine wpAnyG_take (i := 28) (v := ?v102) rfl (by kernel_rfl) (fun _ _ _ h => h) (Or.inl ⟨by rfl, ?hy102⟩) ⟨H10.out.2.1, H10.out.1.cf⟩ ?rest102
        case hy102 => (intro ww _; go_simp; try with_reducible rfl)
        go_simp
        refine wpAnyG_take (i := 29) (v := ?v103) rfl (by kernel_rfl) (fun _ _ _ h => h) (Or.inl ⟨by rfl, ?hy103⟩) ⟨H10.out.2.1, H10.out.1.cf⟩ ?rest103
        case hy103 => (intro ww _; go_simp; try with_reducible rfl)
        go_simp
        refine wpAnyG_done (by kernel_rfl) ?_ _
        go_simp
        have HF : Hid (PvS w w10 F D2 (.pointer (some ⟨g, 0, none⟩)) (.pointer (some ⟨gd, 0, none⟩)) s2 ep l rs2 (.slice a n cap) ∧ WrC w w10 F D2 ad4 nx.length ∧ WrC w w10 F D2 ad5 (2 * SG.length)) := hid ⟨H10.out.1, H10.out.2.2.1, H10.out.2.2.2⟩
        have HTg : Hid (∀ u : World, PvS w u F D2 (.pointer (some ⟨g, 0, none⟩)) (.pointer (some ⟨gd, 0, none⟩)) s2 ep l rs2 (.slice a n cap) → Calls Try.prog 18 #[.pointer (some ⟨g, 0, none⟩)] u fun e w' => ∃ a1 c1 a2 c2 a3 c3, e = .returned (.tuple #[.agg #[.string (svT s2), .slice a1 (sv1 s2).length c1, .int .i64 (svE s2), .slice a2 (svN s2).length c2, .slice a3 (sv3 s2).length c3], .bool (chF s2)]) ∧ (PairsIn w' a1 (sv1 s2) ∧ IntsIn w' a2 (svN s2) ∧ PairsIn w' a3 (sv3 s2)) ∧ Below u.heap.size u w') := hid (fun u hu => (vsettled_at F _ s2 u hu.tl).mono fun e w' ⟨r, k1, k2, k3⟩ => by
          obtain ⟨a1, c1, a2, c2, a3, c3, h1, h2⟩ := set_ans k2
          exact ⟨a1, c1, a2, c2, a3, c3, by rw [k1, h1], h2, k3⟩)
        have HTd : Hid (∀ u : World, PvS w u F D2 (.pointer (some ⟨g, 0, none⟩)) (.pointer (some ⟨gd, 0, none⟩)) s2 ep l rs2 (.slice a n cap) → Calls Try.prog 19 #[.pointer (some ⟨gd, 0, none⟩)] u fun e w' => ∃ a1 c1 a2 c2 a3 c3, e = .returned (.tuple #[.agg #[.string (svT s2), .slice a1 (sv1 s2).length c1, .int .i64 (svE s2), .slice a2 (svN s2).length c2, .slice a3 (sv3 s2).length c3], .bool (chF s2)]) ∧ (PairsIn w' a1 (sv1 s2) ∧ IntsIn w' a2 (svN s2) ∧ PairsIn w' a3 (sv3 s2)) ∧ Below u.heap.size u w') := hid (fun u hu => (dt_settled (by rw [H2e.out.1, H2e.out.2]; exact hu.dt) HOk.out).mono fun e w' ⟨r, k1, k2, k3⟩ => by
          obtain ⟨a1, c1, a2, c2, a3, c3, h1, h2⟩ := set_ans k2
          exact ⟨a1, c1, a2, c2, a3, c3, by rw [k1, h1], h2, k3⟩)
        have HLn := hid (sv_len HOk.out.ok)
        have HRp : Hid (∀ u : World, PvS w u F D2 (.pointer (some ⟨g, 0, none⟩)) (.pointer (some ⟨gd, 0, none⟩)) s2 ep l rs2 (.slice a n cap) → (∃ (j' : Nat) (s : Ta) (rs : List Rv) (D : Nat → Prop), j' ≤ no ∧ Value.int IntKind.i64 ((j : Int) + 1) = .int .i64 (j' : Int) ∧ PvS w u F D (.pointer (some ⟨g, 0, none⟩)) (.pointer (some ⟨gd, 0, none⟩)) s ep l rs (.slice a n cap) ∧ RvOk s rs ∧ s.ep = ep ∧ s.mem = l) ∧ ((no : Int) - intOf (Value.int IntKind.i64 ((j : Int) + 1))).toNat < ((no : Int) - intOf (Value.int IntKind.i64 (j : Int))).toNat) := hid (fun u hu => ⟨⟨j + 1, s2, rs2, D2, by have := HJ.out; omega, by simp, hu, HOk.out, H2e.out.1, H2e.out.2⟩, by simp only [intOf]; omega⟩)
        have hj3 : IntKind.i64.wrap ((j : Int) + 1) = (j : Int) + 1 := wrap_j (by omega) hj1 hmo3
        clear H10 H9 H8 H7 H5d HS5 H5 H4 HB HCt HRow HDd HAd HG HIn HNot
        go_wp2_with fail
        rename World => wm
        go_loopw [13] (fun k wr => ∃ q : Nat, q ≤ nx.length ∧ k = .int .i64 (q : Int) ∧ PvS w wr F D2 (.pointer (some ⟨g, 0, none⟩)) (.pointer (some ⟨gd, 0, none⟩)) s2 ep l rs2 (.slice a n cap) ∧ WrC w wr F D2 ad4 nx.length ∧ WrC w wr F D2 ad5 (2 * SG.length)) (fun k _ => ((nx.length : Int) - intOf k).toNat)
        case atStart => exact ⟨0, by omega, rfl, HF.out⟩
        case round =>
          obtain ⟨q, hq, rfl, hst, hw4, hw5⟩ := hrel
          have hq0 : (0 : Int) ≤ (q : Int) := Int.natCast_nonneg _
          by_cases hqn : q = nx.length
          · have hq1 : ¬ ((q : Int) < (nx.length : Int)) := by omega
            have HS := hid (And.intro hst hw5)
            clear hst hw4 hw5 hq hqn HF
            go_wp2_with fail
            go_loopw [14] (fun k wr => ∃ q : Nat, q ≤ SG.length ∧ k = .int .i64 (q : Int) ∧ PvS w wr F D2 (.pointer (some ⟨g, 0, none⟩)) (.pointer (some ⟨gd, 0, none⟩)) s2 ep l rs2 (.slice a n cap) ∧ WrC w wr F D2 ad5 (2 * SG.length)) (fun k _ => ((SG.length : Int) - intOf k).toNat)
            case atStart => exact ⟨0, by omega, rfl, HS.out⟩
            case round =>
              obtain ⟨p, hp, rfl, hst, hw5⟩ := hrel
              have hp0 : (0 : Int) ≤ (p : Int) := Int.natCast_nonneg _
              by_cases hpn : p = SG.length
              · have hp1 : ¬ ((p : Int) < (SG.length : Int)) := by omega
                have HT := hid hst
                clear hst hw5 hp hpn HS
                have HSm : Hid (∀ (u : World) (a1 a2 a3 b1 b2 b3 : Option Addr) (c1 c2 c3 d1 d2 d3 : Nat), PairsIn u a1 (sv1 s2) ∧ IntsIn u a2 (svN s2) ∧ PairsIn u a3 (sv3 s2) → PairsIn u b1 (sv1 s2) ∧ IntsIn u b2 (svN s2) ∧ PairsIn u b3 (sv3 s2) → Calls Try.prog 20 #[.agg #[.string (svT s2), .slice a1 (sv1 s2).length c1, .int .i64 (svE s2), .slice a2 (svN s2).length c2, .slice a3 (sv3 s2).length c3], .agg #[.string (svT s2), .slice b1 (sv1 s2).length d1, .int .i64 (svE s2), .slice b2 (svN s2).length d2, .slice b3 (sv3 s2).length d3]] u fun e w' => e = .returned (.bool true) ∧ Below u.heap.size u w') := hid (fun u a1 a2 a3 b1 b2 b3 c1 c2 c3 d1 d2 d3 h1 h2 => usame_true (svT s2) (svE s2) (sv1 s2) (sv3 s2) (svN s2) a1 a2 a3 b1 b2 b3 c1 c2 c3 d1 d2 d3 HLn.out.1 HLn.out.2.1 HLn.out.2.2 u ⟨h1.1, h2.1⟩ ⟨h1.2.1, h2.2.1⟩ ⟨h1.2.2, h2.2.2⟩)
                generalize sv1 s2 = P1 at HTg HTd HSm HLn
                generalize svN s2 = P2 at HTg HTd HSm HLn
                generalize sv3 s2 = P3 at HTg HTd HSm HLn
                generalize svT s2 = P4 at HTg HTd HSm
                generalize svE s2 = P5 at HTg HTd HSm
                generalize chF s2 = P6 at HTg HTd
                generalize hN1 : P1.length = N1 at HTg HTd HSm HLn
                generalize hN2 : P2.length = N2 at HTg HTd HSm HLn
                generalize hN3 : P3.length = N3 at HTg HTd HSm HLn
                clear hN1 hN2 hN3 HLn
                go_wp2_with (first
                  | (go_at_call 18; go_must (refine (HTg.out _ HT.out).mono ?_); rintro e w20 ⟨a1, k1, a2, k2, a3, k3, rfl, hd20, hb20⟩; have H20 := hid (And.intro hb20 hd20); clear hb20 hd20; obtain ⟨w21, e21⟩ : ∃ w21, w21 = w20.alloc (.cells #[.string P4, .slice a1 N1 k1, .int .i64 P5, .slice a2 N2 k2, .slice a3 N3 k3] 51) := ⟨_, rfl⟩; have H21 : Hid (PvS w w21 F D2 (.pointer (some ⟨g, 0, none⟩)) (.pointer (some ⟨gd, 0, none⟩)) s2 ep l rs2 (.slice a n cap) ∧ Below w20.heap.size w20 w21 ∧ w21.heap[w20.heap.size]? = some (.cells #[.string P4, .slice a1 N1 k1, .int .i64 P5, .slice a2 N2 k2, .slice a3 N3 k3] 51 (0, 0))) := hid (by have hb : Below w20.heap.size w20 w21 := (by rw [e21]; exact (Below.refl _ _).alloc (Nat.le_refl _) _); exact ⟨(HT.out.keep H20.out.1).keep hb, hb, by rw [e21]; exact heap_alloc_last w20 _⟩); have HE21 := hid e21; clear e21)
                  | (go_at_call 19; rw [← HE21.out]; go_must (refine (HTd.out _ H21.out.1).mono ?_); rintro e w22 ⟨b1, q1, b2, q2, b3, q3, rfl, hd22, hb22⟩; have hbx : Below w22.heap.size w22 (w22.alloc (.cells #[.string P4, .slice b1 N1 q1, .int .i64 P5, .slice b2 N2 q2, .slice b3 N3 q3] 54)) := (Below.refl _ _).alloc (Nat.le_refl _) _; have H22 : Hid (PvS w (w22.alloc (.cells #[.string P4, .slice b1 N1 q1, .int .i64 P5, .slice b2 N2 q2, .slice b3 N3 q3] 54)) F D2 (.pointer (some ⟨g, 0, none⟩)) (.pointer (some ⟨gd, 0, none⟩)) s2 ep l rs2 (.slice a n cap) ∧ (w22.alloc (.cells #[.string P4, .slice b1 N1 q1, .int .i64 P5, .slice b2 N2 q2, .slice b3 N3 q3] 54)).heap[w20.heap.size]? = some (.cells #[.string P4, .slice a1 N1 k1, .int .i64 P5, .slice a2 N2 k2, .slice a3 N3 k3] 51 (0, 0)) ∧ (PairsIn (w22.alloc (.cells #[.string P4, .slice b1 N1 q1, .int .i64 P5, .slice b2 N2 q2, .slice b3 N3 q3] 54)) a1 P1 ∧ IntsIn (w22.alloc (.cells #[.string P4, .slice b1 N1 q1, .int .i64 P5, .slice b2 N2 q2, .slice b3 N3 q3] 54)) a2 P2 ∧ PairsIn (w22.alloc (.cells #[.string P4, .slice b1 N1 q1, .int .i64 P5, .slice b2 N2 q2, .slice b3 N3 q3] 54)) a3 P3) ∧ (PairsIn (w22.alloc (.cells #[.string P4, .slice b1 N1 q1, .int .i64 P5, .slice b2 N2 q2, .slice b3 N3 q3] 54)) b1 P1 ∧ IntsIn (w22.alloc (.cells #[.string P4, .slice b1 N1 q1, .int .i64 P5, .slice b2 N2 q2, .slice b3 N3 q3] 54)) b2 P2 ∧ PairsIn (w22.alloc (.cells #[.string P4, .slice b1 N1 q1, .int .i64 P5, .slice b2 N2 q2, .slice b3 N3 q3] 54)) b3 P3)) := hid (by have hb2 := hb22.trans (hbx.mono hb22.size); have hb1 := H21.out.2.1.trans (hb2.mono H21.out.2.1.size); exact ⟨H21.out.1.keep hb2, (hb2.block _ (lt_of_blk H21.out.2.2)).trans H21.out.2.2, ⟨H20.out.2.1.keep hb1 (Nat.le_refl _), H20.out.2.2.1.keep hb1 (Nat.le_refl _), H20.out.2.2.2.keep hb1 (Nat.le_refl _)⟩, ⟨hd22.1.keep hbx (Nat.le_refl _), hd22.2.1.keep hbx (Nat.le_refl _), hd22.2.2.keep hbx (Nat.le_refl _)⟩⟩); clear hb22 hd22 hbx; have z0 := cell_at (L := [_, _, _, _, _]) H22.out.2.1 0 _ rfl; have z1 := cell_at (L := [_, _, _, _, _]) H22.out.2.1 1 _ rfl; have z2 := cell_at (L := [_, _, _, _, _]) H22.out.2.1 2 _ rfl; have z3 := cell_at (L := [_, _, _, _, _]) H22.out.2.1 3 _ rfl; have z4 := cell_at (L := [_, _, _, _, _]) H22.out.2.1 4 _ rfl)
                  | (go_at_call 20; go_must (refine (HSm.out _ _ _ _ _ _ _ _ _ _ _ _ _ H22.out.2.2.1 H22.out.2.2.2).mono ?_); rintro e w23 ⟨rfl, hb23⟩; have H23 := hid (H22.out.1.keep hb23); clear hb23 z0 z1 z2 z3 z4))
                exact HRp.out _ H23.out
              · have hp1 : (p : Int) < (SG.length : Int) := by omega
                obtain ⟨k, off5, v, rfl, hc, hf, hl1, hl2, hl3⟩ := hw5.at (2 * p) (by omega)
                rw [show off5 + 2 * p = off5 + p * 2 by omega] at hc hf
                have HT := hid (And.intro (hst.set (o := off5 + p * 2) (u := .int .i64 (-9)) hl1 hl2 hl3) (hw5.set (b := k) (o := off5 + p * 2) (u := .int .i64 (-9))))
                have HJp := hid (And.intro hp hpn)
                have hp3 : IntKind.i64.wrap ((p : Int) + 1) = (p : Int) + 1 := wrap_small _ (by omega) (by omega)
                clear hst hw5 hp hpn hl1 hl2 hl3 HS
                go_wp2
                go_roundw
                case rel => exact ⟨p + 1, by have := HJp.out; omega, by go_num, HT.out⟩
                case measure => simp [intOf]; omega
          · have hq1 : (q : Int) < (nx.length : Int) := by omega
            obtain ⟨k, off4, v, rfl, hc, hf, hl1, hl2, hl3⟩ := hw4.at q (by omega)
            have HT := hid (And.intro (hst.set (o := off4 + q) (u := .int .i64 (-9)) hl1 hl2 hl3) (And.intro (hw4.set (b := k) (o := off4 + q) (u := .int .i64 (-9))) (hw5.set (b := k) (o := off4 + q) (u := .int .i64 (-9)))))
            have HJq := hid (And.intro hq hqn)
            have hq3 : IntKind.i64.wrap ((q : Int) + 1) = (q : Int) + 1 := wrap_j hq0 hq1 (by omega)
            clear hst hw4 hw5 hq hqn hl1 hl2 hl3 HF
            go_wp2
            go_roundw
            case rel => exact ⟨q + 1, by have := HJq.out; omega, by go_num, HT.out⟩
            case measure => simp [intOf]; omega
      · obtain rfl := List.mem_singleton.1 hi
        clear hi
        refine wpOp_v rfl (by rfl) (fun K hK => ?_)
        have yr := HRow.out _ (Below.refl _ _)
        go_simp
        refine hK _ _ ⟨fun _ => ⟨H9.out.2.1, H9.out.1.cf⟩, ?_⟩
        clear hK K
        go_simp
        refine wpAnyG_take (i := 27) (v := ?v201) rfl (by kernel_rfl) (fun _ _ _ h => h) (Or.inl ⟨by rfl, ?hy201⟩) ⟨H9.out.2.1, H9.out.1.cf⟩ ?rest201
        case hy201 => (intro ww _; go_simp; try with_reducible rfl)
        go_simp
        refine wpAnyG_all (rs := [22]) (by kernel_rfl) (by simp) ?_
        intro i hi
        obtain rfl := List.mem_singleton.1 hi
        clear hi
        refine wpOp_v rfl (by rfl) (fun K hK => ?_)
        go_simp
        refine (HCt.out _ H9.out.1.tl).mono ?_
        rintro e w10 ⟨rfl, hb10⟩
        have H10 : Hid (PvS w w10 F D2 (.pointer (some ⟨g, 0, none⟩)) (.pointer (some ⟨gd, 0, none⟩)) s2 ep l rs2 (.slice a n cap) ∧ VxAt w10 wr.heap.size f t (.slice aj nx.length cj) z ∧ WrC w w10 F D2 ad4 nx.length ∧ WrC w w10 F D2 ad5 (2 * SG.length)) := hid ⟨H9.out.1.keep hb10, H9.out.2.1.keep hb10, H9.out.2.2.1.keep hb10, H9.out.2.2.2.keep hb10⟩

        clear hb10
        refine hK _ _ ⟨fun _ => ⟨H10.out.2.1, H10.out.1.cf⟩, ?_⟩
        clear hK K
        go_simp
        refine wpAnyG_take (i := 28) (v := ?v202) rfl (by kernel_rfl) (fun _ _ _ h => h) (Or.inl ⟨by rfl, ?hy202⟩) ⟨H10.out.2.1, H10.out.1.cf⟩ ?rest202
        case hy202 => (intro ww _; go_simp; try with_reducible rfl)
        go_simp
        refine wpAnyG_take (i := 29) (v := ?v203) rfl (by kernel_rfl) (fun _ _ _ h => h) (Or.inl ⟨by rfl, ?hy203⟩) ⟨H10.out.2.1, H10.out.1.cf⟩ ?rest203
        case hy203 => (intro ww _; go_simp; try with_reducible rfl)
        go_simp
        refine wpAnyG_done (by kernel_rfl) ?_ _
        go_simp
        have HF : Hid (PvS w w10 F D2 (.pointer (some ⟨g, 0, none⟩)) (.pointer (some ⟨gd, 0, none⟩)) s2 ep l rs2 (.slice a n cap) ∧ WrC w w10 F D2 ad4 nx.length ∧ WrC w w10 F D2 ad5 (2 * SG.length)) := hid ⟨H10.out.1, H10.out.2.2.1, H10.out.2.2.2⟩
        have HTg : Hid (∀ u : World, PvS w u F D2 (.pointer (some ⟨g, 0, none⟩)) (.pointer (some ⟨gd, 0, none⟩)) s2 ep l rs2 (.slice a n cap) → Calls Try.prog 18 #[.pointer (some ⟨g, 0, none⟩)] u fun e w' => ∃ a1 c1 a2 c2 a3 c3, e = .returned (.tuple #[.agg #[.string (svT s2), .slice a1 (sv1 s2).length c1, .int .i64 (svE s2), .slice a2 (svN s2).length c2, .slice a3 (sv3 s2).length c3], .bool (chF s2)]) ∧ (PairsIn w' a1 (sv1 s2) ∧ IntsIn w' a2 (svN s2) ∧ PairsIn w' a3 (sv3 s2)) ∧ Below u.heap.size u w') := hid (fun u hu => (vsettled_at F _ s2 u hu.tl).mono fun e w' ⟨r, k1, k2, k3⟩ => by
          obtain ⟨a1, c1, a2, c2, a3, c3, h1, h2⟩ := set_ans k2
          exact ⟨a1, c1, a2, c2, a3, c3, by rw [k1, h1], h2, k3⟩)
        have HTd : Hid (∀ u : World, PvS w u F D2 (.pointer (some ⟨g, 0, none⟩)) (.pointer (some ⟨gd, 0, none⟩)) s2 ep l rs2 (.slice a n cap) → Calls Try.prog 19 #[.pointer (some ⟨gd, 0, none⟩)] u fun e w' => ∃ a1 c1 a2 c2 a3 c3, e = .returned (.tuple #[.agg #[.string (svT s2), .slice a1 (sv1 s2).length c1, .int .i64 (svE s2), .slice a2 (svN s2).length c2, .slice a3 (sv3 s2).length c3], .bool (chF s2)]) ∧ (PairsIn w' a1 (sv1 s2) ∧ IntsIn w' a2 (svN s2) ∧ PairsIn w' a3 (sv3 s2)) ∧ Below u.heap.size u w') := hid (fun u hu => (dt_settled (by rw [H2e.out.1, H2e.out.2]; exact hu.dt) HOk.out).mono fun e w' ⟨r, k1, k2, k3⟩ => by
          obtain ⟨a1, c1, a2, c2, a3, c3, h1, h2⟩ := set_ans k2
          exact ⟨a1, c1, a2, c2, a3, c3, by rw [k1, h1], h2, k3⟩)
        have HLn := hid (sv_len HOk.out.ok)
        have HRp : Hid (∀ u : World, PvS w u F D2 (.pointer (some ⟨g, 0, none⟩)) (.pointer (some ⟨gd, 0, none⟩)) s2 ep l rs2 (.slice a n cap) → (∃ (j' : Nat) (s : Ta) (rs : List Rv) (D : Nat → Prop), j' ≤ no ∧ Value.int IntKind.i64 ((j : Int) + 1) = .int .i64 (j' : Int) ∧ PvS w u F D (.pointer (some ⟨g, 0, none⟩)) (.pointer (some ⟨gd, 0, none⟩)) s ep l rs (.slice a n cap) ∧ RvOk s rs ∧ s.ep = ep ∧ s.mem = l) ∧ ((no : Int) - intOf (Value.int IntKind.i64 ((j : Int) + 1))).toNat < ((no : Int) - intOf (Value.int IntKind.i64 (j : Int))).toNat) := hid (fun u hu => ⟨⟨j + 1, s2, rs2, D2, by have := HJ.out; omega, by simp, hu, HOk.out, H2e.out.1, H2e.out.2⟩, by simp only [intOf]; omega⟩)
        have hj3 : IntKind.i64.wrap ((j : Int) + 1) = (j : Int) + 1 := wrap_j (by omega) hj1 hmo3
        clear H10 H9 H8 H7 H5d HS5 H5 H4 HB HCt HRow HDd HAd HG HIn HNot
        go_wp2_with fail
        rename World => wm
        go_loopw [13] (fun k wr => ∃ q : Nat, q ≤ nx.length ∧ k = .int .i64 (q : Int) ∧ PvS w wr F D2 (.pointer (some ⟨g, 0, none⟩)) (.pointer (some ⟨gd, 0, none⟩)) s2 ep l rs2 (.slice a n cap) ∧ WrC w wr F D2 ad4 nx.length ∧ WrC w wr F D2 ad5 (2 * SG.length)) (fun k _ => ((nx.length : Int) - intOf k).toNat)
        case atStart => exact ⟨0, by omega, rfl, HF.out⟩
        case round =>
          obtain ⟨q, hq, rfl, hst, hw4, hw5⟩ := hrel
          have hq0 : (0 : Int) ≤ (q : Int) := Int.natCast_nonneg _
          by_cases hqn : q = nx.length
          · have hq1 : ¬ ((q : Int) < (nx.length : Int)) := by omega
            have HS := hid (And.intro hst hw5)
            clear hst hw4 hw5 hq hqn HF
            go_wp2_with fail
            go_loopw [14] (fun k wr => ∃ q : Nat, q ≤ SG.length ∧ k = .int .i64 (q : Int) ∧ PvS w wr F D2 (.pointer (some ⟨g, 0, none⟩)) (.pointer (some ⟨gd, 0, none⟩)) s2 ep l rs2 (.slice a n cap) ∧ WrC w wr F D2 ad5 (2 * SG.length)) (fun k _ => ((SG.length : Int) - intOf k).toNat)
            case atStart => exact ⟨0, by omega, rfl, HS.out⟩
            case round =>
              obtain ⟨p, hp, rfl, hst, hw5⟩ := hrel
              have hp0 : (0 : Int) ≤ (p : Int) := Int.natCast_nonneg _
              by_cases hpn : p = SG.length
              · have hp1 : ¬ ((p : Int) < (SG.length : Int)) := by omega
                have HT := hid hst
                clear hst hw5 hp hpn HS
                have HSm : Hid (∀ (u : World) (a1 a2 a3 b1 b2 b3 : Option Addr) (c1 c2 c3 d1 d2 d3 : Nat), PairsIn u a1 (sv1 s2) ∧ IntsIn u a2 (svN s2) ∧ PairsIn u a3 (sv3 s2) → PairsIn u b1 (sv1 s2) ∧ IntsIn u b2 (svN s2) ∧ PairsIn u b3 (sv3 s2) → Calls Try.prog 20 #[.agg #[.string (svT s2), .slice a1 (sv1 s2).length c1, .int .i64 (svE s2), .slice a2 (svN s2).length c2, .slice a3 (sv3 s2).length c3], .agg #[.string (svT s2), .slice b1 (sv1 s2).length d1, .int .i64 (svE s2), .slice b2 (svN s2).length d2, .slice b3 (sv3 s2).length d3]] u fun e w' => e = .returned (.bool true) ∧ Below u.heap.size u w') := hid (fun u a1 a2 a3 b1 b2 b3 c1 c2 c3 d1 d2 d3 h1 h2 => usame_true (svT s2) (svE s2) (sv1 s2) (sv3 s2) (svN s2) a1 a2 a3 b1 b2 b3 c1 c2 c3 d1 d2 d3 HLn.out.1 HLn.out.2.1 HLn.out.2.2 u ⟨h1.1, h2.1⟩ ⟨h1.2.1, h2.2.1⟩ ⟨h1.2.2, h2.2.2⟩)
                generalize sv1 s2 = P1 at HTg HTd HSm HLn
                generalize svN s2 = P2 at HTg HTd HSm HLn
                generalize sv3 s2 = P3 at HTg HTd HSm HLn
                generalize svT s2 = P4 at HTg HTd HSm
                generalize svE s2 = P5 at HTg HTd HSm
                generalize chF s2 = P6 at HTg HTd
                generalize hN1 : P1.length = N1 at HTg HTd HSm HLn
                generalize hN2 : P2.length = N2 at HTg HTd HSm HLn
                generalize hN3 : P3.length = N3 at HTg HTd HSm HLn
                clear hN1 hN2 hN3 HLn
                go_wp2_with (first
                  | (go_at_call 18; go_must (refine (HTg.out _ HT.out).mono ?_); rintro e w20 ⟨a1, k1, a2, k2, a3, k3, rfl, hd20, hb20⟩; have H20 := hid (And.intro hb20 hd20); clear hb20 hd20; obtain ⟨w21, e21⟩ : ∃ w21, w21 = w20.alloc (.cells #[.string P4, .slice a1 N1 k1, .int .i64 P5, .slice a2 N2 k2, .slice a3 N3 k3] 51) := ⟨_, rfl⟩; have H21 : Hid (PvS w w21 F D2 (.pointer (some ⟨g, 0, none⟩)) (.pointer (some ⟨gd, 0, none⟩)) s2 ep l rs2 (.slice a n cap) ∧ Below w20.heap.size w20 w21 ∧ w21.heap[w20.heap.size]? = some (.cells #[.string P4, .slice a1 N1 k1, .int .i64 P5, .slice a2 N2 k2, .slice a3 N3 k3] 51 (0, 0))) := hid (by have hb : Below w20.heap.size w20 w21 := (by rw [e21]; exact (Below.refl _ _).alloc (Nat.le_refl _) _); exact ⟨(HT.out.keep H20.out.1).keep hb, hb, by rw [e21]; exact heap_alloc_last w20 _⟩); have HE21 := hid e21; clear e21)
                  | (go_at_call 19; rw [← HE21.out]; go_must (refine (HTd.out _ H21.out.1).mono ?_); rintro e w22 ⟨b1, q1, b2, q2, b3, q3, rfl, hd22, hb22⟩; have hbx : Below w22.heap.size w22 (w22.alloc (.cells #[.string P4, .slice b1 N1 q1, .int .i64 P5, .slice b2 N2 q2, .slice b3 N3 q3] 54)) := (Below.refl _ _).alloc (Nat.le_refl _) _; have H22 : Hid (PvS w (w22.alloc (.cells #[.string P4, .slice b1 N1 q1, .int .i64 P5, .slice b2 N2 q2, .slice b3 N3 q3] 54)) F D2 (.pointer (some ⟨g, 0, none⟩)) (.pointer (some ⟨gd, 0, none⟩)) s2 ep l rs2 (.slice a n cap) ∧ (w22.alloc (.cells #[.string P4, .slice b1 N1 q1, .int .i64 P5, .slice b2 N2 q2, .slice b3 N3 q3] 54)).heap[w20.heap.size]? = some (.cells #[.string P4, .slice a1 N1 k1, .int .i64 P5, .slice a2 N2 k2, .slice a3 N3 k3] 51 (0, 0)) ∧ (PairsIn (w22.alloc (.cells #[.string P4, .slice b1 N1 q1, .int .i64 P5, .slice b2 N2 q2, .slice b3 N3 q3] 54)) a1 P1 ∧ IntsIn (w22.alloc (.cells #[.string P4, .slice b1 N1 q1, .int .i64 P5, .slice b2 N2 q2, .slice b3 N3 q3] 54)) a2 P2 ∧ PairsIn (w22.alloc (.cells #[.string P4, .slice b1 N1 q1, .int .i64 P5, .slice b2 N2 q2, .slice b3 N3 q3] 54)) a3 P3) ∧ (PairsIn (w22.alloc (.cells #[.string P4, .slice b1 N1 q1, .int .i64 P5, .slice b2 N2 q2, .slice b3 N3 q3] 54)) b1 P1 ∧ IntsIn (w22.alloc (.cells #[.string P4, .slice b1 N1 q1, .int .i64 P5, .slice b2 N2 q2, .slice b3 N3 q3] 54)) b2 P2 ∧ PairsIn (w22.alloc (.cells #[.string P4, .slice b1 N1 q1, .int .i64 P5, .slice b2 N2 q2, .slice b3 N3 q3] 54)) b3 P3)) := hid (by have hb2 := hb22.trans (hbx.mono hb22.size); have hb1 := H21.out.2.1.trans (hb2.mono H21.out.2.1.size); exact ⟨H21.out.1.keep hb2, (hb2.block _ (lt_of_blk H21.out.2.2)).trans H21.out.2.2, ⟨H20.out.2.1.keep hb1 (Nat.le_refl _), H20.out.2.2.1.keep hb1 (Nat.le_refl _), H20.out.2.2.2.keep hb1 (Nat.le_refl _)⟩, ⟨hd22.1.keep hbx (Nat.le_refl _), hd22.2.1.keep hbx (Nat.le_refl _), hd22.2.2.keep hbx (Nat.le_refl _)⟩⟩); clear hb22 hd22 hbx; have z0 := cell_at (L := [_, _, _, _, _]) H22.out.2.1 0 _ rfl; have z1 := cell_at (L := [_, _, _, _, _]) H22.out.2.1 1 _ rfl; have z2 := cell_at (L := [_, _, _, _, _]) H22.out.2.1 2 _ rfl; have z3 := cell_at (L := [_, _, _, _, _]) H22.out.2.1 3 _ rfl; have z4 := cell_at (L := [_, _, _, _, _]) H22.out.2.1 4 _ rfl)
                  | (go_at_call 20; go_must (refine (HSm.out _ _ _ _ _ _ _ _ _ _ _ _ _ H22.out.2.2.1 H22.out.2.2.2).mono ?_); rintro e w23 ⟨rfl, hb23⟩; have H23 := hid (H22.out.1.keep hb23); clear hb23 z0 z1 z2 z3 z4))
                exact HRp.out _ H23.out
              · have hp1 : (p : Int) < (SG.length : Int) := by omega
                obtain ⟨k, off5, v, rfl, hc, hf, hl1, hl2, hl3⟩ := hw5.at (2 * p) (by omega)
                rw [show off5 + 2 * p = off5 + p * 2 by omega] at hc hf
                have HT := hid (And.intro (hst.set (o := off5 + p * 2) (u := .int .i64 (-9)) hl1 hl2 hl3) (hw5.set (b := k) (o := off5 + p * 2) (u := .int .i64 (-9))))
                have HJp := hid (And.intro hp hpn)
                have hp3 : IntKind.i64.wrap ((p : Int) + 1) = (p : Int) + 1 := wrap_small _ (by omega) (by omega)
                clear hst hw5 hp hpn hl1 hl2 hl3 HS
                go_wp2
                go_roundw
                case rel => exact ⟨p + 1, by have := HJp.out; omega, by go_num, HT.out⟩
                case measure => simp [intOf]; omega
          · have hq1 : (q : Int) < (nx.length : Int) := by omega
            obtain ⟨k, off4, v, rfl, hc, hf, hl1, hl2, hl3⟩ := hw4.at q (by omega)
            have HT := hid (And.intro (hst.set (o := off4 + q) (u := .int .i64 (-9)) hl1 hl2 hl3) (And.intro (hw4.set (b := k) (o := off4 + q) (u := .int .i64 (-9))) (hw5.set (b := k) (o := off4 + q) (u := .int .i64 (-9)))))
            have HJq := hid (And.intro hq hqn)
            have hq3 : IntKind.i64.wrap ((q : Int) + 1) = (q : Int) + 1 := wrap_j hq0 hq1 (by omega)
            clear hst hw4 hw5 hq hqn hl1 hl2 hl3 HF
            go_wp2
            go_roundw
            case rel => exact ⟨q + 1, by have := HJq.out; omega, by go_num, HT.out⟩
            case measure => simp [intOf]; omega
theorem votesPlays_walk (ep : Int) (a : Option Addr) (n cap : Nat) (l : List Int) (hn : l.length = n) (hm : n ≤ maxLen) (o : Option Addr) (no co : Nat) (os : List VtA) (hno : os.length = no) (hmo : no ≤ maxLen) (hos : ∀ x, x ∈ os → vtOw x) (w : World) (hI : IntsIn w a l) (hO : VtsIn w o os) :
    Calls Try.prog 4 #[.agg #[.int .i64 ep, .slice a n cap], .slice o no co] w fun e w' => e = .returned (.bool true) ∧ Below w.heap.size w w' := by
  cases hr : rightC ep l with
  | false => exact vplays_no ep a n cap l hn hm o no co hr w hI
  | true => exact vplays_go ep a n cap l hn o no co os hno hmo hos hr w hI hO
end Go.Proofs.Ytclfphffbfdimaa
