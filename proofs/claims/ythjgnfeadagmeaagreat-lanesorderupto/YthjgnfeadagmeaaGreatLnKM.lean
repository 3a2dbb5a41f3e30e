/- The program's lane: Take, Drop. -/
import Derived.Test.YthjgnfeadagmeaaGreatOa8
namespace Go.Proofs.YthjgnfeadagmeaaGreat
open Go.RowKit

def zPk : List Value := [.int .i64 0, .int .i64 0, .int .i64 0, .int .i64 0, .int .i64 0, .int .i64 0, .int .i64 0, .int .i64 0, .int .i64 0, .string ⟨#[]⟩, .float .f64 0, .int .i64 0, .int .i64 0, .float .f64 0, .string ⟨#[]⟩, .slice none 0 0, .slice none 0 0, .slice none 0 0, .slice none 0 0]
theorem one_newL (L : List Value) (T : TypeId) (w : World) : ∃ wa, w.alloc (.cells L.toArray T) = wa ∧ Below w.heap.size w wa ∧ BxAt wa w.heap.size L T := ⟨_, rfl, (Below.refl w.heap.size w).alloc (Nat.le_refl _) _, heap_alloc_last w _⟩
section
variable {P : Nat → Prop} {N : Nat} {w : World} {v : Value} {bad : List Int} {ps : List Pkt} {L : List Sg}
/-- A packet was taken out of it. -/
def TkPost (N : Nat) (P : Nat → Prop) (w w' : World) (v : Value) (bad : List Int) (ps : List Pkt) (L : List Sg) (p : Nat) (e : Ending) : Prop :=
  ∃ fr to m a13 c13 a14 c14 a15 c15 a16 c16 P', ps[p]? = some (fr, to, m) ∧ e = .returned (.tuple #[.agg (pkC fr to m (.slice a13 m.nx.length c13) (.slice a14 m.sg.length c14) (.slice a15 m.cg.length c15) (.slice a16 m.ln.length c16)).toArray, .bool true]) ∧
    MsL P w' m (.slice a13 m.nx.length c13) (.slice a14 m.sg.length c14) (.slice a15 m.cg.length c15) (.slice a16 m.ln.length c16) ∧ LaneAt N P' w' v bad (rmv ps p) L ∧ Outs P w w' ∧ ∀ k, P' k → P k
set_option maxRecDepth 100000 in
set_option maxHeartbeats 6400000 in
theorem ntake_any (h : LaneAt N P w v bad ps L) (hp : 0 < ps.length) (n : Int) : Calls Tryz.prog 17 #[v, .int .i64 n] w fun e w' => TkPost N P w w' v bad ps L (plN n ps.length) e := by
  have HPl := hid (fun (u : World) (hu : Below w.heap.size w u) => nplace_any (h.keep hu) hp n)
  have hlt := plN_lt n hp
  generalize plN n ps.length = p at HPl hlt ⊢
  obtain ⟨F, g, ab, kb, vr, vk, Fb, B, rfl, hM, hP⟩ := h
  have hrow := hM.row
  rw [hM.len] at hrow
  obtain ⟨ad, cap, rfl, _, _, hr⟩ := row_lane hrow
  obtain ⟨r, rfl, hrl, _⟩ := hr hp
  obtain ⟨b, hb⟩ : ∃ b, B[p]? = some b := ⟨_, List.getElem?_eq_getElem (by rw [hM.len]; exact hlt)⟩
  obtain ⟨⟨fr, to, m⟩, hq⟩ : ∃ q, ps[p]? = some q := ⟨_, List.getElem?_eq_getElem hlt⟩
  obtain ⟨hFb, a13, c13, a14, c14, a15, c15, a16, c16, hbx, hml⟩ := hM.pk p b _ hb hq
  obtain ⟨wa, ha, hba, hz⟩ := one_newL zPk 50 w
  have hcell : ∀ u : World, Below w.heap.size w u → u.cell? ⟨r, p, none⟩ = some (.pointer (some ⟨b, 0, none⟩)) := fun u hu => by
    have h9 := (hM.keep hu).row.cells (g := r) rfl p (ptrV b) (by rw [List.getElem?_map, hb]; rfl)
    rw [Addr.add_lit, Nat.zero_add] at h9
    exact h9
  have hmx := hM.mx
  have q1 : (p : Int) < (ps.length : Int) := by omega
  have q0 : (0 : Int) ≤ (p : Int) := Int.natCast_nonneg _
  have hw : IntKind.i64.wrap ((p : Int) + 1) = (p : Int) + 1 := wrap_l3 (by omega) (by omega)
  have hw2 : wrap64 ((p : Int) + 1) = (p : Int) + 1 := by rw [← IntWalk.i64_left]; exact hw
  have hgr : g ≠ r := fun e => hM.gr (by rw [e]; rfl)
  obtain ⟨A, eA⟩ : ∃ A, A = Value.agg (pkC fr to m (.slice a13 m.nx.length c13) (.slice a14 m.sg.length c14) (.slice a15 m.cg.length c15) (.slice a16 m.ln.length c16)).toArray := ⟨_, rfl⟩
  have HM := hid hM
  have HC := hid hcell
  have HX := hid (And.intro hbx (And.intro hml (And.intro hFb (And.intro hq hlt))))
  have HAg := hid eA
  have H0 := hid (And.intro hba hz)
  have HP := hid hP
  have HG := hid hgr
  unfold zPk at ha
  have HA := hid ha
  clear hM hcell hbx hml hFb hq hb ha hba hz hP hrow hr hrl hp hlt hmx eA hgr
  unfold ptrV
  go_enter Tryz.func17, Tryz.ntmps17
  go_upto_region 1 with fail
  rw [HA.out]
  go_wp2_with (first
    | (have := H3; refine wl_store_blk rfl 50 _ _ rfl w.heap.size 0 rfl _ HAg.out zPk 50 H3.out.2.2.2 (by simp [zPk, pkC, msC]) (by kernel_rfl) (by simp [pkC, msC, Value.oneCell']) ?_; go_must (intro w4 Hz; have H4 := Hz; clear Hz))
    | (have := H3; refine wl_loadB rfl 50 _ rfl b 0 rfl (pkC fr to m (.slice a13 m.nx.length c13) (.slice a14 m.sg.length c14) (.slice a15 m.cg.length c15) (.slice a16 m.ln.length c16)) 50 H3.out.2.1 _ Tryz.underlying50 rfl (by kernel_rfl) A HAg.out rfl ?_)
    | (have := H2; refine wl_stone rfl 70 _ _ rfl g 1 rfl (.slice (some ⟨r, 0, none⟩) (ps.length - 1) cap) rfl rfl rfl (lneV ab kb bad (.slice (some ⟨r, 0, none⟩) ps.length cap) vk) 72 H2.out.2.2 (by simp [lneV]) (by kernel_rfl) ?_; go_must (intro w3 Hz; have hk9 := (HM.out.keep H1.out.1).cut p HX.out.2.2.2.2 H2.out.1 H2.out.2.1 Hz.out.2 Hz.out.1; have hbl : ∀ k, k ≠ r → k ≠ g → w3.heap[k]? = w1.heap[k]? := (fun k k1 k2 => (Hz.out.2.block k k2).trans (H2.out.2.1.block k k1)); have H3 : Hid ((LaneM F N w3 g ab kb (.slice (some ⟨r, 0, none⟩) (ps.length - 1) cap) vk Fb bad (rmv ps p) L (rmv B p) ∧ Outs (Lfp F g (.slice (some ⟨r, 0, none⟩) ps.length cap) Fb) w1 w3) ∧ BxAt w3 b (pkC fr to m (.slice a13 m.nx.length c13) (.slice a14 m.sg.length c14) (.slice a15 m.cg.length c15) (.slice a16 m.ln.length c16)) 50 ∧ MsL F w3 m (.slice a13 m.nx.length c13) (.slice a14 m.sg.length c14) (.slice a15 m.cg.length c15) (.slice a16 m.ln.length c16) ∧ BxAt w3 w.heap.size zPk 50) := hid ⟨hk9, (hbl b (fun e => HM.out.rF r rfl (e ▸ HX.out.2.2.1)) (fun e => HM.out.gF (e ▸ HX.out.2.2.1))).trans (HX.out.1.keep H1.out.1), (HX.out.2.1.under H1.out.1).keep hk9.2.size (fun k _ hk => hbl k (fun e => HM.out.rF r rfl (e ▸ hk)) (fun e => HM.out.gF (e ▸ hk))), (hbl _ (fun e => by have h9 := (HM.out.row.lt r rfl).2; omega) (fun e => by have h9 := lt_of_blk HM.out.blk; omega)).trans H1.out.2⟩; clear Hz hk9 hbl))
    | (go_at_call 41; go_must (refine (ndel_row (N := N) (n := ps.length) (B := B) (by have h9 := (HM.out.keep H1.out.1).row; rw [HM.out.len] at h9; exact h9) HX.out.2.2.2.2).mono ?_; rintro e w2 ⟨rfl, ho, h1⟩; have H2 : Hid (w2.ownsRow N 81 1 (.slice (some ⟨r, 0, none⟩) (ps.length - 1) cap) (ps.length - 1) ((rmv B p).map ptrV) ∧ One r w1 w2 ∧ BxAt w2 g (lneV ab kb bad (.slice (some ⟨r, 0, none⟩) ps.length cap) vk) 72) := hid ⟨ho, h1, (h1.block g HG.out).trans (HM.out.blk.keep H1.out.1)⟩; clear ho h1))
    | (go_at_call 40; go_must (refine (HPl.out _ H0.out.1).mono ?_; rintro e w1 ⟨rfl, hb⟩; have H1 : Hid (Below w.heap.size w w1 ∧ BxAt w1 w.heap.size zPk 50) := hid ⟨H0.out.1.trans (hb.mono H0.out.1.size), H0.out.2.keep hb⟩; clear hb; have y1 := (HM.out.keep H1.out.1).blk.cell 1 _ rfl; have yr := HC.out w1 H1.out.1)))
  refine ret_pair (s := 4) (s2 := 5) (ad := ⟨w.heap.size, 0, none⟩) rfl rfl (load_whole (L := pkC fr to m (.slice a13 m.nx.length c13) (.slice a14 m.sg.length c14) (.slice a15 m.cg.length c15) (.slice a16 m.ln.length c16)) H4.out.1 _ Tryz.underlying50 rfl (by kernel_rfl)) rfl rfl ?_
  have hsz := H1.out.1.size
  have hs3 := H3.out.1.2.size
  have hP2 : ∀ k, Lfp F g (.slice (some ⟨r, 0, none⟩) (ps.length - 1) cap) Fb k → P k := fun k hk => (HP.out k).2 (by
    rcases hk with hk | hk | hk
    · exact .inl hk
    · exact .inr (.inl hk)
    · exact .inr (.inr hk))
  have hlP : ∀ k, P k → k < w.heap.size := fun k hk => HM.out.lt k ((HP.out k).1 hk)
  unfold TkPost
  refine ⟨fr, to, m, _, _, _, _, _, _, _, _, _, HX.out.2.2.2.1, rfl, (H3.out.2.2.1.keep (Nat.le_of_eq H4.out.2.size.symm) (fun k _ hk => H4.out.2.block k (by have := HM.out.Fl k hk; omega))).mono2 (fun k _ hk => (HP.out k).2 (.inr (.inr (.inr hk)))), ⟨F, g, ab, kb, _, vk, Fb, _, rfl, H3.out.1.1.stay (Nat.le_of_eq H4.out.2.size.symm) (fun k _ hk => H4.out.2.block k (by have := hlP k (hP2 k hk); omega)), fun k => Iff.rfl⟩, ?_, hP2⟩
  refine ⟨H4.out.2.os.trans (H3.out.1.2.os.trans H1.out.1.os), H4.out.2.tape.trans (H3.out.1.2.tape.trans H1.out.1.tape), H4.out.2.output.trans (H3.out.1.2.output.trans H1.out.1.output), by rw [H4.out.2.size]; omega, fun k hk hn => ?_⟩
  exact (H4.out.2.block k (by omega)).trans ((H3.out.1.2.block k (by omega) (fun hq => hn ((HP.out k).2 hq))).trans (H1.out.1.block k hk))
end
end Go.Proofs.YthjgnfeadagmeaaGreat
