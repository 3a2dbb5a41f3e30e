/- The program's lane: Send. -/
import Derived.Test.YthjgnfeadagmeaaGreatLnLM
import Derived.Test.YthjgnfeadagmeaaGreatOa9
import Derived.Test.YthjgnfeadagmeaaGreatWsEM
namespace Go.Proofs.YthjgnfeadagmeaaGreat
open Go.RowKit

def dPk (q : Pkt) : List Dat := .i q.1 :: .i q.2.1 :: dMs q.2.2
def sendP (ps qs : List Pkt) : List Pkt := qs.foldl (fun l q => addP l (nrmP q)) ps
def noteP (L : List Sg) (qs : List Pkt) : List Sg := qs.foldl (fun L q => noted L (tmG q.2.2)) L
theorem sendP_take {ps qs : List Pkt} {j : Nat} {q : Pkt} (h : qs[j]? = some q) : sendP ps (qs.take (j + 1)) = addP (sendP ps (qs.take j)) (nrmP q) := by
  unfold sendP
  rw [List.take_add_one, h, List.foldl_append]
  rfl
theorem noteP_take {L : List Sg} {qs : List Pkt} {j : Nat} {q : Pkt} (h : qs[j]? = some q) : noteP L (qs.take (j + 1)) = noted (noteP L (qs.take j)) (tmG q.2.2) := by
  unfold noteP
  rw [List.take_add_one, h, List.foldl_append]
  rfl
theorem tmG_norm (m : Ms) : tmG (normM m) = tmG m := by
  have h : ∀ c : Cg, cgG (nCg c) = cgG c := fun c => by
    show (c.2.2.1.map nCt).flatMap (fun x => x.2.2.2) ++ _ = _
    rw [List.flatMap_map]
    rfl
  show m.sg ++ ((m.cg.map nCg).flatMap cgG ++ _) = _
  rw [List.flatMap_map, show (fun a => cgG (nCg a)) = cgG from funext h]
  rfl
theorem MsN.norm {m : Ms} (h : MsN m) : MsN (normM m) := ⟨h.nx, h.sg, ⟨by show (m.cg.map nCg).length ≤ maxLen; rw [List.length_map]; exact h.cg.1, fun x hx => by
  obtain ⟨y, hy, rfl⟩ := List.mem_map.1 (show x ∈ m.cg.map nCg from hx)
  obtain ⟨h1, h2⟩ := h.cg.2 y hy
  refine ⟨by show (y.2.2.1.map nCt).length ≤ maxLen; rw [List.length_map]; exact h1, fun c hc => ?_⟩
  obtain ⟨z, hz, rfl⟩ := List.mem_map.1 (show c ∈ y.2.2.1.map nCt from hc)
  exact h2 z hz⟩, h.ln⟩
theorem noted_size (L ss : List Sg) : (noted L ss).length ≤ L.length + ss.length := by
  induction ss generalizing L with
  | nil => exact Nat.le_refl _
  | cons x r ih =>
    have h1 := ih (if stands L x = true then L else L ++ [x])
    have h2 : (if stands L x = true then L else L ++ [x]).length ≤ L.length + 1 := by split <;> simp
    rw [noted, List.length_cons]
    omega
theorem noteP_size (L : List Sg) (qs : List Pkt) : ∀ j, (noteP L (qs.take j)).length ≤ L.length + ((qs.take j).flatMap fun q => tmG q.2.2).length := by
  intro j
  induction j with
  | zero => simp [noteP]
  | succ j ih =>
    cases hq : qs[j]? with
    | none =>
      have : qs.take (j + 1) = qs.take j := by rw [List.take_add_one, hq]; simp
      rw [this]
      exact ih
    | some q =>
      rw [noteP_take hq]
      have h1 := noted_size (noteP L (qs.take j)) (tmG q.2.2)
      have h2 : ((qs.take (j + 1)).flatMap fun q => tmG q.2.2).length = ((qs.take j).flatMap fun q => tmG q.2.2).length + (tmG q.2.2).length := by rw [List.take_add_one, hq]; simp
      omega
theorem flat_takeL {α β : Type} (f : α → List β) (l : List α) (j : Nat) : ((l.take j).flatMap f).length ≤ (l.flatMap f).length := by
  conv => rhs; rw [← List.take_append_drop j l, List.flatMap_append, List.length_append]
  omega
/-- A packet of a list, as cells. -/
theorem pk_at {F : Nat → Prop} {w : World} {v : Value} {qs : List Pkt} (h : Reads F w v (.l 19 (qs.map dPk))) (j : Nat) (q : Pkt) (hj : qs[j]? = some q) :
    ∃ g off cap a13 c13 a14 c14 a15 c15 a16 c16, v = .slice (some ⟨g, off, none⟩) qs.length cap ∧ F g ∧ g < w.heap.size ∧ (∀ (i : Nat) (u : Value), (pkC q.1 q.2.1 q.2.2 (.slice a13 q.2.2.nx.length c13) (.slice a14 q.2.2.sg.length c14) (.slice a15 q.2.2.cg.length c15) (.slice a16 q.2.2.ln.length c16))[i]? = some u → w.cell? ⟨g, off + j * 19 + i, none⟩ = some u) ∧ MsL F w q.2.2 (.slice a13 q.2.2.nx.length c13) (.slice a14 q.2.2.sg.length c14) (.slice a15 q.2.2.cg.length c15) (.slice a16 q.2.2.ln.length c16) := by
  obtain ⟨g, off, cap, hv, hF, hg, _, hc⟩ := h.at j (dPk q) (by rw [List.getElem?_map, hj]; rfl)
  rw [List.length_map] at hv
  obtain ⟨u0, k0, r0⟩ := hc 0 _ rfl
  obtain ⟨u1, k1, r1⟩ := hc 1 _ rfl
  obtain ⟨u2, k2, r2⟩ := hc 2 _ rfl
  obtain ⟨u3, k3, r3⟩ := hc 3 _ rfl
  obtain ⟨u4, k4, r4⟩ := hc 4 _ rfl
  obtain ⟨u5, k5, r5⟩ := hc 5 _ rfl
  obtain ⟨u6, k6, r6⟩ := hc 6 _ rfl
  obtain ⟨u7, k7, r7⟩ := hc 7 _ rfl
  obtain ⟨u8, k8, r8⟩ := hc 8 _ rfl
  obtain ⟨u9, k9, r9⟩ := hc 9 _ rfl
  obtain ⟨u10, k10, r10⟩ := hc 10 _ rfl
  obtain ⟨u11, k11, r11⟩ := hc 11 _ rfl
  obtain ⟨u12, k12, r12⟩ := hc 12 _ rfl
  obtain ⟨u13, k13, r13⟩ := hc 13 _ rfl
  obtain ⟨u14, k14, r14⟩ := hc 14 _ rfl
  obtain ⟨u15, k15, r15⟩ := hc 15 _ rfl
  obtain ⟨u16, k16, r16⟩ := hc 16 _ rfl
  obtain ⟨u17, k17, r17⟩ := hc 17 _ rfl
  obtain ⟨u18, k18, r18⟩ := hc 18 _ rfl
  obtain rfl := r0.int
  obtain rfl := r1.int
  obtain rfl := r2.int
  obtain rfl := r3.int
  obtain rfl := r4.int
  obtain rfl := r5.int
  obtain rfl := r6.int
  obtain rfl := r7.int
  obtain rfl := r8.int
  obtain rfl := r9.str
  obtain rfl := r10.flt
  obtain rfl := r11.int
  obtain rfl := r12.int
  obtain rfl := r13.flt
  obtain rfl := r14.str
  obtain ⟨a13, c13, rfl, _, _⟩ := reads_ints r15
  obtain ⟨a14, c14, rfl, _, _⟩ := reads_pairs r16
  obtain ⟨a15, c15, e15⟩ := r17.form
  obtain ⟨a16, c16, e16⟩ := r18.form
  rw [List.length_map] at e15 e16
  subst e15 e16
  refine ⟨g, off, cap, a13, c13, a14, c14, a15, c15, a16, c16, hv, hF, hg, fun i u hu => ?_, ⟨r15, r16, r17, r18⟩⟩
  match i, hu with
  | 0, hu => cases hu; exact k0
  | 1, hu => cases hu; exact k1
  | 2, hu => cases hu; exact k2
  | 3, hu => cases hu; exact k3
  | 4, hu => cases hu; exact k4
  | 5, hu => cases hu; exact k5
  | 6, hu => cases hu; exact k6
  | 7, hu => cases hu; exact k7
  | 8, hu => cases hu; exact k8
  | 9, hu => cases hu; exact k9
  | 10, hu => cases hu; exact k10
  | 11, hu => cases hu; exact k11
  | 12, hu => cases hu; exact k12
  | 13, hu => cases hu; exact k13
  | 14, hu => cases hu; exact k14
  | 15, hu => cases hu; exact k15
  | 16, hu => cases hu; exact k16
  | 17, hu => cases hu; exact k17
  | 18, hu => cases hu; exact k18
  | i + 19, hu => cases hu
section
variable {F P : Nat → Prop} {N g : Nat} {w w' : World} {ab : Option Addr} {kb : Nat} {v vr vk : Value} {Fb : List Nat} {bad : List Int} {ps : List Pkt} {L : List Sg} {B : List Nat}
/-- Behind a note in its book. -/
theorem LaneM.book {Fb' : List Nat} {L' : List Sg} (h : LaneM F N w g ab kb vr vk Fb bad ps L B) (hB : BkAt Fb' w' vk L') (hF : ∀ b, b ∈ Fb' → b ∈ Fb ∨ w.heap.size ≤ b) (ho : Out Fb w w') : LaneM F N w' g ab kb vr vk Fb' bad ps L' B := by
  have hk : ∀ k, k < w.heap.size → k ∉ Fb → w'.heap[k]? = w.heap[k]? := ho.block
  have hgl := lt_of_blk h.blk
  refine ⟨(hk g hgl h.gb).trans h.blk, h.bd.keep ho.size (fun k hl hF => hk k hl (h.Fb k hF)), own_rowN h.row (fun k hv => hk k (h.row.lt k hv).2 (h.rb k hv)), h.len, fun i b p hb hp => ⟨(h.pk i b p hb hp).1, (h.pk i b p hb hp).2.keep (h.pk i b p hb hp).1 ho.size (fun k hl hF => hk k hl (h.Fb k hF))⟩, hB, h.gN, h.FN, fun k hq => ?_, Nat.le_trans h.le ho.size, h.gF, fun hq => ?_, h.gr, h.rF, fun k hv hq => ?_, fun k hF2 hq => ?_, fun k hF => Nat.lt_of_lt_of_le (h.Fl k hF) ho.size, h.mx⟩
  · rcases hF k hq with hq | hq
    · exact h.bN k hq
    · exact Nat.le_trans h.le hq
  · rcases hF g hq with hq | hq
    · exact h.gb hq
    · omega
  · have := (h.row.lt k hv).2
    rcases hF k hq with hq | hq
    · exact h.rb k hv hq
    · omega
  · have := h.Fl k hF2
    rcases hF k hq with hq | hq
    · exact h.Fb k hF2 hq
    · omega
/-- More memory is its own. -/
theorem LaneM.more {X : Nat → Prop} (h : LaneM F N w g ab kb vr vk Fb bad ps L B) (hX : ∀ k, X k → N ≤ k ∧ k < w.heap.size ∧ k ≠ g ∧ vr.ownBlock ≠ some k ∧ k ∉ Fb) : LaneM (fun k => F k ∨ X k) N w g ab kb vr vk Fb bad ps L B :=
  ⟨h.blk, h.bd.mono (fun _ _ hk => .inl hk), h.row, h.len, fun i b p hb hp => ⟨.inl (h.pk i b p hb hp).1, (h.pk i b p hb hp).2.mono (fun _ _ hk => .inl hk)⟩, h.bk, h.gN, fun k hk => hk.elim (h.FN k) (fun hk => (hX _ hk).1), h.bN, h.le, fun hk => hk.elim h.gF (fun hk => (hX g hk).2.2.1 rfl), h.gb, h.gr, fun k hv hk => hk.elim (h.rF k hv) (fun hk => (hX k hk).2.2.2.1 hv), h.rb, fun k hk => hk.elim (h.Fb k) (fun hk => (hX k hk).2.2.2.2), fun k hk => hk.elim (h.Fl k) (fun hk => (hX k hk).2.1), h.mx⟩
theorem wpOp_n {P : Program} {ops : Array Oper} {o : Oper} {a : Act} {w : World} {Q : Exit → Act → World → Prop} {K : Act → World → Prop} {i : Nat} (hi : ops[i]? = some o) (hw : Region.wanted o (yielded ops a.tmps) = true) (h : ∀ K' : Act → World → Prop, (∀ a w, K a w → K' a w) → o.wp P a w K' Q) : wpOp P ops Q i K a w := by
  unfold Go.wpOp
  simp only [hi, hw, if_true]
  exact .inl (h _ (fun _ _ h => h))
theorem nadd_dec (h : LaneM F N w g ab kb vr vk Fb bad ps L B) (fr tg : Int) (m : Ms) (a13 a14 a15 a16 : Option Addr) (c13 c14 c15 c16 : Nat) (hL : MsL F w m (.slice a13 m.nx.length c13) (.slice a14 m.sg.length c14) (.slice a15 m.cg.length c15) (.slice a16 m.ln.length c16)) :
    Calls Tryz.prog 35 #[.pointer (some ⟨g, 0, none⟩), .agg (pkC fr tg m (.slice a13 m.nx.length c13) (.slice a14 m.sg.length c14) (.slice a15 m.cg.length c15) (.slice a16 m.ln.length c16)).toArray] w fun e w' => e = .returned (.bool (decide (ps.length < 4096))) ∧ LanePost N (Lfp F g vr Fb) w w' (ptrV g) bad (addP ps (fr, tg, m)) L := by
  refine (nadd_any h fr tg m a13 a14 a15 a16 c13 c14 c15 c16 hL).mono ?_
  rintro e w' ⟨h1, h2⟩
  by_cases hl : ps.length < 4096
  · rw [decide_eq_true hl, addP_yes hl]
    exact h1 hl
  · rw [decide_eq_false hl, addP_no hl]
    obtain ⟨he, hb⟩ := h2 hl
    exact ⟨he, _, ⟨F, g, ab, kb, vr, vk, Fb, B, rfl, h.keep hb, fun k => Iff.rfl⟩, Outs.ofB hb, fun k hk => .inl hk⟩
/-- What a send leaves, behind qs. -/
def SdPost (N : Nat) (P : Nat → Prop) (w w' : World) (v : Value) (bad : List Int) (ps : List Pkt) (L : List Sg) (qs : List Pkt) : Prop := LanePost N P w w' v bad (sendP ps qs) (noteP L qs)
theorem LanePost.then {w1 w2 : World} {P1 : Nat → Prop} {ps' : List Pkt} {L' : List Sg} (ho : Outs P w w1) (hn : ∀ k, P1 k → P k ∨ w.heap.size ≤ k) (h : LanePost N P1 w1 w2 v bad ps' L') : LanePost N P w w2 v bad ps' L' := by
  obtain ⟨P2, k1, k2, k3⟩ := h
  refine ⟨P2, k1, ho.trans k2 (fun j hj hq => ?_), fun k hk => ?_⟩
  · rcases hn j hq with hq | hq
    · exact hq
    · omega
  · rcases k3 k hk with hq | hq
    · exact hn k hq
    · exact .inr (Nat.le_trans ho.size hq)
set_option maxRecDepth 100000 in
set_option maxHeartbeats 12800000 in
theorem nsend_any {G : Nat → Prop} (h : LaneAt N P w v bad ps L) (qs : List Pkt) (a : Option Addr) (cap : Nat) (hR : Reads G w (.slice a qs.length cap) (.l 19 (qs.map dPk))) (hG : ∀ k, G k → ¬ P k) (hm : qs.length ≤ 140737488355328) (hs : ∀ q, q ∈ qs → msS q.2.2 ∧ MsN q.2.2 ∧ ∀ p, p ∈ tmG q.2.2 → fitP p) (hT : (L.length + (qs.flatMap fun q => tmG q.2.2).length) * 24 ≤ 140737488355328) :
    Calls Tryz.prog 12 #[v, .slice a qs.length cap] w fun e w' => e = .returned (.tuple #[]) ∧ SdPost N P w w' v bad ps L qs := by
  obtain ⟨g0, rfl⟩ := h.isptr
  have hml : (qs.length : Int) ≤ 140737488355328 := by omega
  have H0 := hid h
  have HR := hid (And.intro hR hG)
  have HB := hid (And.intro hml (And.intro hs hT))
  unfold SdPost
  clear h hR hG hm hs hT hml
  go_enter Tryz.func12, Tryz.ntmps12
  go_wp2
  go_loopw [10] (fun i wr => ∃ (j : Nat), j ≤ qs.length ∧ i = .int .i64 (j : Int) ∧ LanePost N P w wr (.pointer (some ⟨g0, 0, none⟩)) bad (sendP ps (qs.take j)) (noteP L (qs.take j)))
    (fun i _ => ((qs.length : Int) - intOf i).toNat)
  case atStart => exact ⟨0, by omega, rfl, P, H0.out, Outs.refl _ _, fun k hk => .inl hk⟩
  case round =>
    obtain ⟨j, hj, rfl, hS⟩ := hrel
    by_cases hjn : j = qs.length
    · have hj1 : ¬ ((j : Int) < (qs.length : Int)) := by omega
      have HS := hid (And.intro hS hjn)
      clear hS hj hjn
      go_wp2
      go_end0
      have h9 := HS.out.1
      rw [HS.out.2, List.take_length] at h9
      exact ⟨rfl, h9⟩
    have hj1 : (j : Int) < (qs.length : Int) := by omega
    have hj0 : (0 : Int) ≤ (j : Int) := Int.natCast_nonneg _
    have hjw : IntKind.i64.wrap ((j : Int) + 1) = (j : Int) + 1 := wrap_l3 (by have := HB.out.1; omega) (by have := HB.out.1; omega)
    obtain ⟨q, hq⟩ : ∃ q, qs[j]? = some q := ⟨_, List.getElem?_eq_getElem (by omega)⟩
    obtain ⟨P1, hA, hO, hn⟩ := hS
    have hRr : Reads G wr (.slice a qs.length cap) (.l 19 (qs.map dPk)) := HR.out.1.keep hO.size (fun k hk hGk => hO.block k hk (HR.out.2 k hGk))
    obtain ⟨ga, off, _, a13, c13, a14, c14, a15, c15, a16, c16, ev, hGa, hga, hcs, hml⟩ := pk_at hRr j q hq
    cases ev
    obtain ⟨hms, hmn, hmf⟩ := HB.out.2.1 q (List.mem_of_getElem? hq)
    have hnl : ((noteP L (qs.take j)).length + (tmG q.2.2).length) * 24 ≤ 140737488355328 := by
      have h1 := noteP_size L qs j
      have h2 := flat_takeL (fun q : Pkt => tmG q.2.2) qs (j + 1)
      have h3 : ((qs.take (j + 1)).flatMap fun q => tmG q.2.2).length = ((qs.take j).flatMap fun q => tmG q.2.2).length + (tmG q.2.2).length := by rw [List.take_add_one, hq]; simp
      have h4 := HB.out.2.2
      omega
    have HN := hid (And.intro hO (And.intro hn (And.intro hj (And.intro hjn hq))))
    obtain ⟨F, g, ab, kb, vr, vk, Fb, B, eg, hM, hP1⟩ := hA
    obtain rfl : g = g0 := by cases eg; rfl
    clear eg
    obtain ⟨gk, rfl⟩ := hM.bk.form
    have HM := hid hM
    have HP1 := hid hP1
    have HCs := hid hcs
    have HTm := hid (And.intro hnl (And.intro hmn.norm hmf))
    have hnt : (tmG q.2.2).length * 24 ≤ 140737488355328 := by omega
    obtain ⟨A, eA⟩ : ∃ A, A = Value.agg (pkC q.1 q.2.1 q.2.2 (.slice a13 q.2.2.nx.length c13) (.slice a14 q.2.2.sg.length c14) (.slice a15 q.2.2.cg.length c15) (.slice a16 q.2.2.ln.length c16)).toArray := ⟨_, rfl⟩
    have HAg := hid eA
    have HOw := hid (fun (u : World) (hu : Below wr.heap.size wr u) => nown_any q.1 q.2.1 q.2.2 hms _ _ _ _ u (hml.under hu))
    obtain ⟨m, em⟩ : ∃ m, m = normM q.2.2 := ⟨_, rfl⟩
    have htm : tmG m = tmG q.2.2 := by rw [em]; exact tmG_norm _
    replace HOw : Hid (∀ u : World, Below wr.heap.size wr u → Calls Tryz.prog 32 #[A] u fun e w' => ∃ b13 d13 b14 d14 b15 d15 b16 d16, e = .returned (.agg (pkC q.1 q.2.1 m (.slice b13 m.nx.length d13) (.slice b14 m.sg.length d14) (.slice b15 m.cg.length d15) (.slice b16 m.ln.length d16)).toArray) ∧ MsL (fun k => u.heap.size ≤ k) w' m (.slice b13 m.nx.length d13) (.slice b14 m.sg.length d14) (.slice b15 m.cg.length d15) (.slice b16 m.ln.length d16) ∧ Below u.heap.size u w') := hid (fun u hu => by
      rw [eA, em]
      refine (HOw.out u hu).mono ?_
      rintro e w' ⟨a1, c1, a2, c2, a3, c3, a4, c4, rfl, h1, h2⟩
      have hl : (normM q.2.2).cg.length = q.2.2.cg.length := by simp [normM]
      rw [← hl] at h1 ⊢
      exact ⟨a1, c1, a2, c2, a3, c3, a4, c4, rfl, h1, h2⟩)
    have HTe := hid (And.intro htm (And.intro (show MsN m by rw [em]; exact hmn.norm) hnt))
    have HEm := hid em
    clear hO hn hj hjn hq hM hP1 hcs hnl hmn hmf eA hms hml hRr hGa hga em htm hnt
    go_wp2_with (first
      | (have := H3; refine wl_store_blk rfl 50 _ _ rfl wr.heap.size 0 rfl _ HA2.out (pkC q.1 q.2.1 q.2.2 (.slice a13 q.2.2.nx.length c13) (.slice a14 q.2.2.sg.length c14) (.slice a15 q.2.2.cg.length c15) (.slice a16 q.2.2.ln.length c16)) 50 H3.out.2.1 (by simp [pkC, msC]) (by kernel_rfl) (by simp [pkC, msC, Value.oneCell']) ?_; go_must (intro w4 Hz; have H4 : Hid (Below wr.heap.size wr w4 ∧ BxAt w4 wr.heap.size (pkC q.1 q.2.1 m (.slice b13 m.nx.length d13) (.slice b14 m.sg.length d14) (.slice b15 m.cg.length d15) (.slice b16 m.ln.length d16)) 50 ∧ MsL (fun k => wr.heap.size < k) w4 m (.slice b13 m.nx.length d13) (.slice b14 m.sg.length d14) (.slice b15 m.cg.length d15) (.slice b16 m.ln.length d16)) := hid ⟨Hz.out.2.below H3.out.1 (Nat.le_refl _), Hz.out.1, H3.out.2.2.keep (Nat.le_of_eq Hz.out.2.size.symm) (fun k _ hk => Hz.out.2.block k (by have hk : wr.heap.size < k := hk; omega))⟩; clear Hz))
      | (have := H2; go_at_call 32; go_must (refine (HOw.out _ H2.out.1).mono ?_; rintro e w3 ⟨b13, d13, b14, d14, b15, d15, b16, d16, rfl, h1, h2⟩; have H3 : Hid (Below wr.heap.size wr w3 ∧ BxAt w3 wr.heap.size (pkC q.1 q.2.1 q.2.2 (.slice a13 q.2.2.nx.length c13) (.slice a14 q.2.2.sg.length c14) (.slice a15 q.2.2.cg.length c15) (.slice a16 q.2.2.ln.length c16)) 50 ∧ MsL (fun k => wr.heap.size < k) w3 m (.slice b13 m.nx.length d13) (.slice b14 m.sg.length d14) (.slice b15 m.cg.length d15) (.slice b16 m.ln.length d16)) := hid ⟨H2.out.1.trans (h2.mono H2.out.1.size), H2.out.2.keep h2, h1.mono2 (fun k _ hk => by have h9 := lt_of_blk H2.out.2; have hk : w2.heap.size ≤ k := hk; show wr.heap.size < k; omega)⟩; clear h1 h2; obtain ⟨A2, eA2⟩ : ∃ A2, A2 = Value.agg (pkC q.1 q.2.1 m (.slice b13 m.nx.length d13) (.slice b14 m.sg.length d14) (.slice b15 m.cg.length d15) (.slice b16 m.ln.length d16)).toArray := ⟨_, rfl⟩; rw [← eA2]; have HA2 := hid eA2; clear eA2))
      | (have := H2; refine wl_loadB rfl 50 _ rfl wr.heap.size 0 rfl (pkC q.1 q.2.1 q.2.2 (.slice a13 q.2.2.nx.length c13) (.slice a14 q.2.2.sg.length c14) (.slice a15 q.2.2.cg.length c15) (.slice a16 q.2.2.ln.length c16)) 50 H2.out.2 _ Tryz.underlying50 rfl (by kernel_rfl) A HAg.out rfl ?_)
      | (refine wl_store_blk rfl 50 _ _ rfl wr.heap.size 0 rfl _ HAg.out zPk 50 (heap_alloc_last wr _) (by simp [zPk, pkC, msC]) (by kernel_rfl) (by simp [pkC, msC, Value.oneCell']) ?_; go_must (intro w2 Hz; have H2 : Hid (Below wr.heap.size wr w2 ∧ BxAt w2 wr.heap.size (pkC q.1 q.2.1 q.2.2 (.slice a13 q.2.2.nx.length c13) (.slice a14 q.2.2.sg.length c14) (.slice a15 q.2.2.cg.length c15) (.slice a16 q.2.2.ln.length c16)) 50) := hid ⟨Hz.out.2.below ((Below.refl _ _).alloc (Nat.le_refl _) _) (Nat.le_refl _), Hz.out.1⟩; clear Hz))
      | (refine wl_ldat rfl 50 _ rfl ga (off + j * 19) rfl (pkC q.1 q.2.1 q.2.2 (.slice a13 q.2.2.nx.length c13) (.slice a14 q.2.2.sg.length c14) (.slice a15 q.2.2.cg.length c15) (.slice a16 q.2.2.ln.length c16)) (fun i u hu => HCs.out i u hu) _ Tryz.underlying50 rfl (by kernel_rfl) A HAg.out ?_))
    have HS : Hid (BxAt w4.drew g (lneV ab kb bad vr (.pointer (some ⟨gk, 0, none⟩))) 72 ∧ BxAt w4.drew wr.heap.size (pkC q.1 q.2.1 m (.slice b13 m.nx.length d13) (.slice b14 m.sg.length d14) (.slice b15 m.cg.length d15) (.slice b16 m.ln.length d16)) 50) := hid ⟨HM.out.blk.keep H4.out.1.drew, H4.out.2.1⟩
    have H4d : Hid (Below wr.heap.size wr w4.drew ∧ MsL (fun k => wr.heap.size < k) w4.drew m (.slice b13 m.nx.length d13) (.slice b14 m.sg.length d14) (.slice b15 m.cg.length d15) (.slice b16 m.ln.length d16)) := hid ⟨H4.out.1.drew, H4.out.2.2.under (Below.refl w4.heap.size w4).drew⟩
    refine wp_region_G (S := fun ww => BxAt ww g (lneV ab kb bad vr (.pointer (some ⟨gk, 0, none⟩))) 72 ∧ BxAt ww wr.heap.size (pkC q.1 q.2.1 m (.slice b13 m.nx.length d13) (.slice b14 m.sg.length d14) (.slice b15 m.cg.length d15) (.slice b16 m.ln.length d16)) 50) (ex := [7]) (by kernel_rfl) ?_
    try (change wpAnyG _ _ _ _ _ _ _ _ _ (World.drew _))
    refine wpAnyG_take (i := 0) (v := ?v1) rfl (by kernel_rfl) (fun _ _ _ h => h) (Or.inl ⟨by rfl, ?hy1⟩) HS.out ?rest1
    case hy1 => (intro ww _; go_simp; try with_reducible rfl)
    go_simp
    refine wpAnyG_take (i := 1) (v := ?v2) rfl (by kernel_rfl) (fun _ _ _ h => h) (Or.inl ⟨by rfl, ?hy2⟩) HS.out ?rest2
    case hy2 => (intro ww _; go_simp; try with_reducible rfl)
    go_simp
    refine wpAnyG_take (i := 2) (v := ?v3) rfl (by kernel_rfl) (fun _ _ _ h => h) (Or.inl ⟨by rfl, ?hy3⟩) HS.out ?rest3
    case hy3 => (intro ww _; go_simp; try with_reducible rfl)
    go_simp
    refine wpAnyG_take (i := 3) (v := ?v4) rfl (by kernel_rfl) (fun _ _ _ h => h) (Or.inl ⟨by rfl, ?hy4⟩) HS.out ?rest4
    case hy4 => (intro ww hS; have y2 := hS.1.cell 2 _ rfl; go_simp; try with_reducible rfl)
    go_simp
    refine wpAnyG_take (i := 4) (v := ?v5) rfl (by kernel_rfl) (fun _ _ _ h => h) (Or.inl ⟨by rfl, ?hy5⟩) HS.out ?rest5
    case hy5 => (intro ww _; go_simp; try with_reducible rfl)
    go_simp
    refine wpAnyG_take (i := 5) (v := ?v6) rfl (by kernel_rfl) (fun _ _ _ h => h) (Or.inl ⟨by rfl, ?hy6⟩) HS.out ?rest6
    case hy6 => (intro ww hS; have z2 := hS.2.cell 2 _ rfl; have z3 := hS.2.cell 3 _ rfl; have z4 := hS.2.cell 4 _ rfl; have z5 := hS.2.cell 5 _ rfl; have z6 := hS.2.cell 6 _ rfl; have z7 := hS.2.cell 7 _ rfl; have z8 := hS.2.cell 8 _ rfl; have z9 := hS.2.cell 9 _ rfl; have z10 := hS.2.cell 10 _ rfl; have z11 := hS.2.cell 11 _ rfl; have z12 := hS.2.cell 12 _ rfl; have z13 := hS.2.cell 13 _ rfl; have z14 := hS.2.cell 14 _ rfl; have z15 := hS.2.cell 15 _ rfl; have z16 := hS.2.cell 16 _ rfl; have z17 := hS.2.cell 17 _ rfl; have z18 := hS.2.cell 18 _ rfl; go_simp; try with_reducible rfl)
    go_simp
    refine wpAnyG_all (rs := [6]) (by kernel_rfl) (by simp) ?_
    intro i hi
    obtain rfl := List.mem_singleton.1 hi
    clear hi
    refine wpOp_n rfl (by rfl) (fun K hK => ?_)
    go_simp
    refine (iterms_any (F := fun k => wr.heap.size < k) m b13 b14 b15 b16 d13 d14 d15 d16 w4.drew HTe.out.2.1 (by rw [HTe.out.1]; exact HTe.out.2.2) H4d.out.2).mono ?_
    rintro e w5 ⟨ta, tc, rfl, hnw, hb⟩
    have H5 : Hid (Below wr.heap.size wr w5 ∧ BxAt w5 wr.heap.size (pkC q.1 q.2.1 m (.slice b13 m.nx.length d13) (.slice b14 m.sg.length d14) (.slice b15 m.cg.length d15) (.slice b16 m.ln.length d16)) 50 ∧ MsL (fun k => wr.heap.size < k) w5 m (.slice b13 m.nx.length d13) (.slice b14 m.sg.length d14) (.slice b15 m.cg.length d15) (.slice b16 m.ln.length d16) ∧ NwG w4.heap.size w5 ta (tmG m) ∧ BxAt w5 g (lneV ab kb bad vr (.pointer (some ⟨gk, 0, none⟩))) 72 ∧ w4.heap.size ≤ w5.heap.size) := hid ⟨H4d.out.1.trans (hb.mono H4d.out.1.size), HS.out.2.keep hb, H4d.out.2.under hb, hnw, HS.out.1.keep hb, hb.size⟩
    clear hnw hb
    refine hK _ _ ⟨fun _ => ⟨H5.out.2.2.2.2.1, H5.out.2.1⟩, ?_⟩
    clear hK K
    go_simp
    refine wpAnyG_all (rs := [7]) (by kernel_rfl) (by simp) ?_
    intro i hi
    obtain rfl := List.mem_singleton.1 hi
    clear hi
    refine wpOp_n rfl (by rfl) (fun K hK => ?_)
    go_simp
    refine (tnote_any Fb (.pointer (some ⟨gk, 0, none⟩)) (noteP L (qs.take j)) ta (tmG m).length tc (tmG m) rfl (by rw [HTe.out.1]; exact HTm.out.1) (by rw [HTe.out.1]; exact HTm.out.2.2) w5 ((HM.out.keep H5.out.1).bk) H5.out.2.2.2.1.1 (fun ad had hne hin => ?_)).mono ?_
    · rcases H5.out.2.2.2.1.2 with h9 | ⟨gt, cs, T, h8, h9, _⟩
      · exact hne h9
      · rw [had] at h8
        cases h8
        have h7 := HM.out.bk.lt _ hin
        have h6 := H4.out.1.size
        have h5 : gt < wr.heap.size := h7
        omega
    rintro e w6 ⟨rfl, Fb', hB6, hF6, ho6⟩
    have H6 := hid (And.intro hB6 (And.intro hF6 ho6))
    clear hB6 hF6 ho6
    refine hK _ _ ⟨fun h => absurd (by simp) h, ?_⟩
    clear hK K
    go_simp
    refine wpAnyG_done (by kernel_rfl) ?_ _
    go_simp
    have hgl : g < wr.heap.size := lt_of_blk HM.out.blk
    have hM6 := (HM.out.keep H5.out.1).book H6.out.1 H6.out.2.1 H6.out.2.2
    have hFl : ∀ b, b ∈ Fb → b < wr.heap.size := HM.out.bk.lt
    have h65 := H6.out.2.2.size
    have h54 := H5.out.1.size
    have hkb : ∀ k, wr.heap.size ≤ k → k < w5.heap.size → w6.heap[k]? = w5.heap[k]? := fun k k1 k2 => H6.out.2.2.block k k2 (fun hq => by have := hFl k hq; omega)
    have hXX := hM6.more (X := fun k => wr.heap.size ≤ k ∧ k < w5.heap.size) (fun k hk => ⟨Nat.le_trans HM.out.le hk.1, Nat.lt_of_lt_of_le hk.2 h65, fun e => by omega, fun e => by have := (HM.out.row.lt k e).2; omega, fun hq => by
      rcases H6.out.2.1 k hq with hq | hq
      · have := hFl k hq; omega
      · omega⟩)
    have HX6 := hid hXX
    have H7 : Hid (BxAt w6 wr.heap.size (pkC q.1 q.2.1 m (.slice b13 m.nx.length d13) (.slice b14 m.sg.length d14) (.slice b15 m.cg.length d15) (.slice b16 m.ln.length d16)) 50 ∧ MsL (fun k => F k ∨ (wr.heap.size ≤ k ∧ k < w5.heap.size)) w6 m (.slice b13 m.nx.length d13) (.slice b14 m.sg.length d14) (.slice b15 m.cg.length d15) (.slice b16 m.ln.length d16)) := hid ⟨(hkb _ (Nat.le_refl _) (lt_of_blk H5.out.2.1)).trans H5.out.2.1, ((H5.out.2.2.1.mono2 (fun k hl hk => (⟨by have hk : wr.heap.size < k := hk; omega, hl⟩ : wr.heap.size ≤ k ∧ k < w5.heap.size))).keep h65 (fun k _ hk => hkb k hk.1 hk.2)).mono2 (fun k _ hk => .inr hk)⟩
    clear hM6 hXX
    go_wp2_with (first
      | (go_at_call 35; go_must (rw [HA2.out]; refine (nadd_dec HX6.out q.1 q.2.1 m b13 b14 b15 b16 d13 d14 d15 d16 H7.out.2).mono ?_; rintro e w7 ⟨rfl, k1⟩; have H8 := hid k1; clear k1))
      | (refine wl_loadB rfl 50 _ rfl wr.heap.size 0 rfl (pkC q.1 q.2.1 m (.slice b13 m.nx.length d13) (.slice b14 m.sg.length d14) (.slice b15 m.cg.length d15) (.slice b16 m.ln.length d16)) 50 H7.out.1 _ Tryz.underlying50 rfl (by kernel_rfl) A2 HA2.out rfl ?_))
    go_roundw
    case rel =>
      have ho16 : Outs P1 wr w6 := ⟨H6.out.2.2.os.trans H5.out.1.os, H6.out.2.2.tape.trans H5.out.1.tape, H6.out.2.2.output.trans H5.out.1.output, Nat.le_trans h54 h65, fun k hk hq => (H6.out.2.2.block k (Nat.lt_of_lt_of_le hk h54) (fun hb => hq ((HP1.out k).2 (.inr (.inr (.inl hb)))))).trans (H5.out.1.block k hk)⟩
      have hn16 : ∀ k, Lfp (fun k => F k ∨ (wr.heap.size ≤ k ∧ k < w5.heap.size)) g vr Fb' k → P1 k ∨ wr.heap.size ≤ k := by
        rintro k (hk | hk | hk | hk | hk)
        · exact .inl ((HP1.out k).2 (.inl hk))
        · exact .inl ((HP1.out k).2 (.inr (.inl hk)))
        · rcases H6.out.2.1 k hk with hk | hk
          · exact .inl ((HP1.out k).2 (.inr (.inr (.inl hk))))
          · exact .inr (Nat.le_trans h54 hk)
        · exact .inl ((HP1.out k).2 (.inr (.inr (.inr hk))))
        · exact .inr hk.1
      have hfin := LanePost.then HN.out.1 HN.out.2.1 (LanePost.then ho16 hn16 H8.out)
      refine ⟨j + 1, by have := HN.out.2.2; omega, by simp, ?_⟩
      rw [sendP_take HN.out.2.2.2.2, noteP_take HN.out.2.2.2.2, ← HTe.out.1]
      have hq9 : nrmP q = (q.1, q.2.1, m) := by rw [HEm.out]; rfl
      rw [hq9]
      exact hfin
    case measure => have := HN.out.2.2; simp [intOf]; omega
end
end Go.Proofs.YthjgnfeadagmeaaGreat
