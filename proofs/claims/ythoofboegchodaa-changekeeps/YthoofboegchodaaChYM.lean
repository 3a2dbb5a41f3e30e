/- While ChangeKeeps lays its list of changes: what lies where. No walk here. -/
import Derived.Test.YthoofboegchodaaChXM
import Derived.Test.YthoofboegchodaaChLM
import Derived.Test.YthoofboegchodaaApAM
import Derived.Test.YthoofboegchodaaDsIM
namespace Go.Proofs.Ythoofboegchodaa
open Go.RowKit

/-- The boxes of the arguments, and of the request. -/
structure KpB (w0 w : World) (ep : Int) (vm : Value) (V Wh : Int) (vb : Value) (r : Rq) (vl : Value) (pr : Nat) : Prop where
  cf : BxAt w w0.heap.size [.int .i64 ep, vm] 34
  tl : BxAt w (w0.heap.size + 1) [.int .i64 V, .int .i64 Wh, vb, .int .i64 r.c, .int .i64 r.st, .int .i64 r.k, .string r.key, .int .u64 (r.b : Int), .int .i64 r.id, vl] 59
  rq : RqAt w pr r
  bel : Below w0.heap.size w0 w
theorem KpB.keep {w0 w w' : World} {ep : Int} {vm : Value} {V Wh : Int} {vb : Value} {r : Rq} {vl : Value} {pr : Nat} (h : KpB w0 w ep vm V Wh vb r vl pr) (hb : Below w.heap.size w w') : KpB w0 w' ep vm V Wh vb r vl pr :=
  ⟨h.cf.keep hb, h.tl.keep hb, (hb.block _ (lt_of_blk h.rq)).trans h.rq, h.bel.trans (hb.mono h.bel.size)⟩
/-- The row of changes. -/
structure KrS (wB w : World) (vl : Value) (G : List (Cg × Value)) : Prop where
  own : w.ownsRow wB.heap.size 26 5 vl G.length (G.flatMap cgF)
  bel : Below wB.heap.size wB w
  rd : ∀ p, p ∈ G → Reads (fun k => vl.ownBlock ≠ some k) w p.2 (dCts p.1.2.2.1)
theorem KrS.nil (w : World) : KrS w w (.slice none 0 0) [] := ⟨World.ownsRow_nil _ _ _ _, Below.refl _ _, fun p hp => by cases hp⟩
theorem KrS.keep {wB w w' : World} {vl : Value} {G : List (Cg × Value)} (h : KrS wB w vl G) (hb : Below w.heap.size w w') : KrS wB w' vl G :=
  ⟨ownsRow_keep h.own hb, h.bel.trans (hb.mono h.bel.size), fun p hp => (h.rd p hp).under hb (Nat.le_refl _)⟩
theorem KrS.sl {wB w : World} {vl : Value} {G : List (Cg × Value)} (h : KrS wB w vl G) : ∃ a c, vl = .slice a G.length c := by
  rcases h.own.2 with ⟨hv, h0⟩ | ⟨g, cap, cur, hv, _⟩
  · exact ⟨none, 0, by rw [hv, h0]⟩
  · exact ⟨_, _, hv⟩
theorem KrS.grow {wB w w2 : World} {vl v2 : Value} {G : List (Cg × Value)} (h : KrS wB w vl G) (p : Cg × Value) (hp : Reads (fun k => vl.ownBlock ≠ some k) w p.2 (dCts p.1.2.2.1)) (h2 : w2.ownsRow wB.heap.size 26 5 v2 (G.length + 1) (G.flatMap cgF ++ cgF p)) (hg : w.grownBy w2 vl.ownBlock) (ho : v2.ownBlock = vl.ownBlock ∨ v2.ownBlock = some w.heap.size) : KrS wB w2 v2 (G ++ [p]) := by
  refine ⟨?_, ?_, fun x hx => ?_⟩
  · rw [List.length_append, List.flatMap_append]
    simpa using h2
  · exact h.bel.grown hg h.bel.size (fun k hk => (h.own.lt k hk).1)
  · have hr : Reads (fun k => vl.ownBlock ≠ some k) w x.2 (dCts x.1.2.2.1) := by
      rcases List.mem_append.1 hx with hx | hx
      · exact h.rd x hx
      · rw [List.mem_singleton.1 hx]; exact hp
    refine hr.move hg.size (fun k hk hF => ⟨hg.block k hk (fun e => hF e.symm), ?_⟩)
    rcases ho with e | e
    · rw [e]; exact hF
    · rw [e]; intro e2; cases e2; exact Nat.lt_irrefl _ hk
/-- At the end the row reads as the changes. -/
theorem KrS.reads {wB w : World} {vl : Value} {G : List (Cg × Value)} (h : KrS wB w vl G) : Reads (fun k => k < w.heap.size) w vl (dCgs (G.map (·.1))) := by
  rcases h.own.2 with ⟨hv, h0⟩ | ⟨g, cap, cur, hv, hB, hh, hr⟩
  · have : G = [] := List.eq_nil_of_length_eq_zero h0
    subst this
    rw [hv]
    exact .nil none 0 5
  · subst hv
    have hcell := fun (j : Nat) (v : Value) (hv : (G.flatMap cgF)[j]? = some v) => h.own.cells (g := g) rfl j v hv
    have hlen : G.length = ((G.map (·.1)).map dCg).length := by simp
    rw [hlen]
    refine .l g 0 cap 5 _ (fun j q => ((G.flatMap cgF)[j * 5 + q]?).getD undef) (lt_of_blk hh) (lt_of_blk hh) (fun j e he => ?_) (fun j e q d he hd => ?_) (fun j e q d he hd => ?_)
    · rw [List.map_map, List.getElem?_map] at he
      cases hp : G[j]? with
      | none => rw [hp] at he; cases he
      | some p => rw [hp] at he; cases he; rfl
    all_goals
      rw [List.map_map, List.getElem?_map] at he
      cases hp : G[j]? with
      | none => rw [hp] at he; cases he
      | some p =>
        rw [hp] at he
        cases he
        obtain ⟨hq, u, hu, hr2⟩ := rd_cg ((h.rd p (List.mem_of_getElem? hp)).mono (fun k hk _ => hk) : Reads (fun k => k < w.heap.size) w p.2 (dCts p.1.2.2.1)) q d hd
        have hx : (G.flatMap cgF)[j * 5 + q]? = some u := by rw [row_at cgF_len hp q hq]; exact hu
        first
          | (have := hcell _ _ hx
             rw [Addr.add_lit] at this
             rw [hx]
             simpa [Nat.add_assoc] using this)
          | (rw [hx]; exact hr2)
theorem mk_ctR {ep : Int} {m : List Int} {q : Nat} {v : Int} {r : Rq} (he : 0 ≤ ep ∧ ep ≤ 60) (hm : m.length ≤ 10) (hi : ∀ x, x ∈ m → 0 ≤ x ∧ x < 16) (hv : iR v) (hr : rqR r) : ctR (mkC ep m q v r) := by
  refine ⟨⟨hv, ?_⟩, hr, ?_, fun p hp => ?_⟩
  · show iR (4 * ep + 2); unfold iR; omega
  · show ((m.take q).map _).length ≤ maxLen
    rw [List.length_map, List.length_take]; unfold maxLen; omega
  · obtain ⟨y, hy, rfl⟩ := List.mem_map.1 hp
    have := hi y (List.mem_of_mem_take hy)
    have h2 := len_prT (ep := ep) r v (4 * ep + 2)
    exact ⟨by unfold iR; simp only; omega, Nat.le_trans h2 (by unfold maxLen; omega)⟩
theorem tell_R {ep : Int} {m bad : List Int} {q : Nat} {V : Int} {r : Rq} {lies : List Ct} (he : 0 ≤ ep ∧ ep ≤ 60) (hm : m.length ≤ 10) (hi : ∀ x, x ∈ m → 0 ≤ x ∧ x < 16) (hV : 0 ≤ V ∧ V < 15) (hr : rqR r) (hl : ∀ z, z ∈ lies → ctR z) (i : Nat) : (tellC ep m bad V r q lies i).length ≤ 1 ∧ ∀ x, x ∈ tellC ep m bad V r q lies i → ctR x := by
  unfold tellC
  split
  · unfold lieC
    cases lies with
    | nil => exact ⟨Nat.zero_le _, fun x hx => by cases hx⟩
    | cons z zs =>
      simp only
      split
      · refine ⟨Nat.le_refl _, fun x hx => ?_⟩
        rw [List.mem_singleton.1 hx]
        have hz := hl z (List.mem_cons_self ..)
        exact mk_ctR he hm hi hz.1.1 hz.2.1
      · exact ⟨Nat.zero_le _, fun x hx => by cases hx⟩
  · split
    · refine ⟨Nat.le_refl _, fun x hx => ?_⟩
      rw [List.mem_singleton.1 hx]
      exact mk_ctR he hm hi (by unfold iR; omega) hr
    · exact ⟨Nat.zero_le _, fun x hx => by cases hx⟩
theorem chg_R {ep : Int} {m bad : List Int} {q : Nat} {V : Int} {r : Rq} {lies : List Ct} (he : 0 ≤ ep ∧ ep ≤ 60) (hm : m.length ≤ 10) (hi : ∀ x, x ∈ m → 0 ≤ x ∧ x < 16) (hV : 0 ≤ V ∧ V < 15) (hr : rqR r) (hl : ∀ z, z ∈ lies → ctR z) (i : Nat) (hin : i < m.length) : cgR (chgC ep m bad V r q lies i) := by
  have ht := tell_R (bad := bad) (q := q) he hm hi hV hr hl i
  have hmem : m.getD i 0 ∈ m := by rw [List.getD_eq_getElem?_getD, List.getElem?_eq_getElem hin, Option.getD_some]; exact List.getElem_mem hin
  have hf := hi _ hmem
  have hR : iR (m.getD i 0) := by unfold iR; omega
  exact ⟨⟨hR, by show iR (V + 1); unfold iR; omega⟩, ⟨Nat.le_trans ht.1 (by unfold maxLen; omega), ht.2⟩, hR, Nat.le_trans (chT_size _ _) (by unfold maxLen; omega)⟩
theorem norm_same {r : Rq} (h : rightB r = true) : sameB (normR r) r = true := by
  obtain ⟨_, h1, h2⟩ := norm_alike r
  rw [h] at h1
  have e1 : rqE (normR r) = 0 := by unfold rqE; simp [h1]
  have e2 : rqE r = 0 := by unfold rqE; simp [h]
  rw [sameB, e1, e2, h2]
  simp
theorem infoCG : (Try.prog.info? 26).map (fun i => (i.zero, i.size, i.bytes)) = some (some (.agg #[.int .i64 0, .int .i64 0, .slice none 0 0, .int .i64 0, .string ⟨#[]⟩]), 5, 64) := by kernel_rfl
/-- A change that is laid: its box at py, its certificates; vl the row of those laid before. -/
structure KyS (wc wr u : World) (py : Nat) (M V : Int) (vl vc : Value) (cs : List Ct) : Prop where
  bx : BxAt u py [.int .i64 M, .int .i64 (V + 1), vc, .int .i64 0, .string ⟨#[]⟩] 26
  bel : Below py wr u
  belc : Below wc.heap.size wc u
  rd : Reads (fun k => k ≠ py ∧ vl.ownBlock ≠ some k) u vc (dCts cs)
theorem KyS.keep {wc wr u u' : World} {py : Nat} {M V : Int} {vl vc : Value} {cs : List Ct} (h : KyS wc wr u py M V vl vc cs) (hb : Below u.heap.size u u') : KyS wc wr u' py M V vl vc cs :=
  ⟨h.bx.keep hb, h.bel.trans (hb.mono (Nat.le_of_lt (lt_of_blk h.bx))), h.belc.trans (hb.mono h.belc.size), h.rd.under hb (Nat.le_refl _)⟩
theorem put_cert {wc wr u : World} {py : Nat} {M V : Int} {vl vc : Value} {cs : List Ct} (h : KyS wc wr u py M V vl vc cs) (hpc : wc.heap.size ≤ py) (hvl : ∀ k, vl.ownBlock = some k → k < py) (c : Ct) (ao : Option Addr) (co : Nat) (hp : PairsIn u ao c.2.2.2) (hao : ∀ z, ao = some z → z.block ≠ py ∧ vl.ownBlock ≠ some z.block) :
    KyS wc wr ((u.alloc (.cells (ctC c (.slice ao c.2.2.2.length co)).toArray 52)).setCell ⟨py, 2, none⟩ (.slice (some ⟨u.heap.size, 0, none⟩) 1 1)) py M V vl (.slice (some ⟨u.heap.size, 0, none⟩) 1 1) [c] := by
  have hlt := lt_of_blk h.bx
  have h1 := h.keep ((Below.refl u.heap.size u).alloc (Nat.le_refl _) (.cells (ctC c (.slice ao c.2.2.2.length co)).toArray 52))
  have hx : BxAt (u.alloc (.cells (ctC c (.slice ao c.2.2.2.length co)).toArray 52)) u.heap.size (gC [(c, .slice ao c.2.2.2.length co)]) 52 := heap_alloc_last u _
  have hpp : PairsIn (u.alloc (.cells (ctC c (.slice ao c.2.2.2.length co)).toArray 52)) ao c.2.2.2 := hp.keep ((Below.refl u.heap.size u).alloc (Nat.le_refl _) _) (Nat.le_refl _)
  generalize u.alloc (.cells (ctC c (.slice ao c.2.2.2.length co)).toArray 52) = v at h1 hx hpp
  have hb : ∀ q, q ≠ py → (v.setCell ⟨py, 2, none⟩ (.slice (some ⟨u.heap.size, 0, none⟩) 1 1)).heap[q]? = v.heap[q]? := fun q hq => Below.heap_setCell v ⟨py, 2, none⟩ _ q hq
  have hs : (v.setCell ⟨py, 2, none⟩ (.slice (some ⟨u.heap.size, 0, none⟩) 1 1)).heap.size = v.heap.size := by simp [World.setCell]
  have hne : u.heap.size ≠ py := by omega
  refine ⟨(blk_set h1.bx 2 _).trans rfl, h1.bel.setCell (p := ⟨py, 2, none⟩) (Nat.le_refl _) _, h1.belc.setCell (p := ⟨py, 2, none⟩) hpc _, ?_⟩
  have := reads_cts (F := fun k => k ≠ py ∧ vl.ownBlock ≠ some k) (w := v.setCell ⟨py, 2, none⟩ (.slice (some ⟨u.heap.size, 0, none⟩) 1 1)) (g := u.heap.size) (cap := 1) (T := 52) [(c, .slice ao c.2.2.2.length co)] ((hb _ hne).trans hx) ⟨hne, fun e => by have := hvl _ e; omega⟩ (fun p hp2 => by
    rw [List.mem_singleton.1 hp2]
    refine pairs_reads ?_ (fun x hx2 _ => hao x hx2)
    rcases hpp with e | ⟨g, off, ha, hg, hc⟩
    · exact .inl e
    · refine .inr ⟨g, off, ha, by rw [hs]; exact hg, fun j s hj => ?_⟩
      have h2 := hb g (hao _ ha).1
      simp only [World.cell?, h2]
      exact hc j s hj)
  exact this
end Go.Proofs.Ythoofboegchodaa
