/- The program's client: a message is heard. -/
import Derived.Test.YtoepppkadpjonaaGreatNb14
namespace Go.Proofs.YtoepppkadpjonaaGreat
set_option maxRecDepth 100000
open Go.RowKit
section
variable {O P : Nat → Prop} {N g : Nat} {w : World} {v vt vc va : Value} {fm : List Int} {ls : List Lk} {c : Clt}
theorem kreply_any (h : ClM O N w g vt vc va fm ls c) (hfm : fm.length ≤ 10) (hl : ls.length ≤ 900) (hls : ∀ k, k ∈ ls → k.2.1.length ≤ 10) (hcm : (c.cm.length + 1) * 32 ≤ 140737488355328) (hac : (c.ac.length + 1) * 72 ≤ 140737488355328) (hob : c.op.b < 18446744073709551616) (m : Ms) (a13 a14 a15 a16 : Option Addr) (c13 c14 c15 c16 : Nat) (fr : Int) (hrb : m.rq.b < 18446744073709551616) (hrf : m.rs.2 < 18446744073709551616) :
   Calls Tryz.prog 49 #[.pointer (some ⟨g, 0, none⟩), .int .i64 fr, .agg (msA m a13 a14 a15 a16 c13 c14 c15 c16).toArray] w fun e w' => e = .returned (.tuple #[]) ∧ RpPost O N w w' g vt vc va fm ls (repC fm ls c fr m) := by
 obtain ⟨adc, cpc, rfl, _, _⟩ := row_open h.cm
 unfold repC
 cases k1 : atB ls m.ep with
 | false => exact kreply_n1 h hfm hl hls hcm hac hob m a13 a14 a15 a16 c13 c14 c15 c16 fr hrb hrf k1
 | true =>
   cases k2 : hasM (atM fm ls m.ep) fr with
   | false => exact kreply_n2 h hfm hl hls hcm hac hob m a13 a14 a15 a16 c13 c14 c15 c16 fr hrb hrf k1 k2
   | true =>
     cases k3 : sameB m.rq c.op with
     | false => exact kreply_n3 h hfm hl hls hcm hac hob m a13 a14 a15 a16 c13 c14 c15 c16 fr hrb hrf k1 k2 k3
     | true =>
       cases k4 : hasW c.cm m.ep fr with
       | true => exact kreply_n4 h hfm hl hls hcm hac hob m a13 a14 a15 a16 c13 c14 c15 c16 fr hrb hrf k1 k2 k3 k4
       | false =>
         simp only [Bool.not_false, Bool.and_self, if_true]
         split
         · rename_i hw
           exact kreply_acc h hfm hl hls hcm hac hob m a13 a14 a15 a16 c13 c14 c15 c16 fr hrb hrf k1 k2 k3 k4 hw
         · rename_i hw
           exact kreply_cnt h hfm hl hls hcm hac hob m a13 a14 a15 a16 c13 c14 c15 c16 fr hrb hrf k1 k2 k3 k4 hw
def HdPost (O : Nat → Prop) (N : Nat) (w w' : World) (g : Nat) (vt vc va : Value) (fm : List Int) (ls' : List Lk) (c' : Clt) : Prop :=
 ∃ O' vc' va', ClM O' N w' g vt vc' va' fm ls' c' ∧ Outs (Cfp O g vc va) w w' ∧ ∀ k, Cfp O' g vc' va' k → Cfp O g vc va k ∨ w.heap.size ≤ k
theorem RpPost.hd {w' : World} {c' : Clt} (h : RpPost O N w w' g vt vc va fm ls c') : HdPost O N w w' g vt vc va fm ls c' := by
 obtain ⟨vc', va', h1, h2, h3, h4⟩ := h
 refine ⟨O, vc', va', h1, h2, fun k hk => ?_⟩
 rcases hk with hk | hk | hk | hk
 · exact .inl (.inl hk)
 · exact .inl (.inr (.inl hk))
 · rcases h3 k hk with h | h
   · exact .inl (.inr (.inr (.inl h)))
   · exact .inr h
 · rcases h4 k hk with h | h
   · exact .inl (.inr (.inr (.inr h)))
   · exact .inr h
theorem HdPost.pre {w1 w' : World} {ls' : List Lk} {c' : Clt} (hb : Below w.heap.size w w1) (h : HdPost O N w1 w' g vt vc va fm ls' c') : HdPost O N w w' g vt vc va fm ls' c' := by
 obtain ⟨O', vc', va', h1, h2, h3⟩ := h
 exact ⟨O', vc', va', h1, (Outs.of hb).trans h2 (fun _ _ h => h), fun k hk => (h3 k hk).imp id (fun h => Nat.le_trans hb.size h)⟩
theorem HdPost.same {w' : World} (h : ClM O N w g vt vc va fm ls c) (hb : Below w.heap.size w w') : HdPost O N w w' g vt vc va fm ls c := ⟨O, vc, va, h.keep hb, Outs.of hb, fun _ hk => .inl hk⟩
theorem ClM.newtr {O' : Nat → Prop} {w' : World} {ls' : List Lk} (h : ClM O N w g vt vc va fm ls c) (ho : Outs O w w') (ht : TrAt O' w' vt fm ls') (hO : ∀ k, O' k → O k ∨ w.heap.size ≤ k) : HdPost O N w w' g vt vc va fm ls' c := by
 have hg := lt_of_blk h.blk
 have hfar : ∀ k, k < w.heap.size → ¬ O k → ¬ O' k := fun k hk hn hq => (hO k hq).elim hn (fun h => by omega)
 refine ⟨O', vc, va, ⟨(ho.block g hg h.gO).trans h.blk, ht, own_rowW h.cm (fun k hk => ho.block k (h.cm.lt k hk).2 (h.cO k hk)), own_rowW h.ac (fun k hk => ho.block k (h.ac.lt k hk).2 (h.aO k hk)), h.gN, fun k hk => ?_, Nat.le_trans h.le ho.size, hfar g hg h.gO, h.cg, h.ag, fun k hk => hfar k (h.cm.lt k hk).2 (h.cO k hk), fun k hk => hfar k (h.ac.lt k hk).2 (h.aO k hk), h.ca⟩, ⟨ho.os, ho.tape, ho.output, ho.size, fun k hk hn => ho.block k hk (fun hq => hn (.inr (.inl hq)))⟩, fun k hk => ?_⟩
 · rcases hO k hk with hq | hq
   · exact h.oN k hq
   · exact Nat.le_trans h.le hq
 · rcases hk with hk | hk | hk
   · exact .inl (.inl hk)
   · rcases hO k hk with hq | hq
     · exact .inl (.inr (.inl hq))
     · exact .inr hq
   · exact .inl (.inr (.inr hk))
def toLk (k : Ln) : Lk := (k.1.1, k.1.2, k.2)
theorem dLns_lk (l : List Ln) : dLns l = .l 3 (dLks (l.map toLk)) := by
 rw [dLns, dLks, List.map_map]
 rfl
def hdlL (fm : List Int) (ls : List Lk) (m : Ms) : List Lk := if (ownM m).k = 10 ∧ takeE 0 fm ls ((ownM m).ln.map toLk) = 0 then (ownM m).ln.map toLk else ls
def hdlC (fm : List Int) (ls : List Lk) (c : Clt) (fr : Int) (m : Ms) : Clt := if (ownM m).k = 8 then repC fm ls c fr (ownM m) else c
set_option maxHeartbeats 6400000 in
theorem khandle_no {F : Nat → Prop} (h : ClM O N w g vt vc va fm ls c) (hfm : rightC 0 fm = true) (hl : ls.length ≤ 900) (hls : ∀ k, k ∈ ls → k.2.1.length ≤ 10) (hch : chainE 0 fm [] ls = 0) (hcm : (c.cm.length + 1) * 32 ≤ 140737488355328) (hac : (c.ac.length + 1) * 72 ≤ 140737488355328) (hob : c.op.b < 18446744073709551616) (m : Ms) (a13 a14 a15 a16 : Option Addr) (c13 c14 c15 c16 : Nat) (now fr : Int) (hB : MsB m) (hL : MsL F w m (.slice a13 m.nx.length c13) (.slice a14 m.sg.length c14) (.slice a15 m.cg.length c15) (.slice a16 m.ln.length c16)) (hkn : (ownM m).k ≠ 8 ∧ (ownM m).k ≠ 10) :
   Calls Tryz.prog 17 #[.pointer (some ⟨g, 0, none⟩), .int .i64 now, .int .i64 fr, .agg (msA m a13 a14 a15 a16 c13 c14 c15 c16).toArray] w fun e w' => e = .returned (.slice none 0 0) ∧ HdPost O N w w' g vt vc va fm ls c := by
 obtain ⟨wa, HA, hb, hx⟩ := msA_new m a13 a14 a15 a16 c13 c14 c15 c16 48 w
 have HH := hid h
 obtain ⟨gt, hgt⟩ := h.tr.isptr
 subst hgt
 have H0 := hid (And.intro hx hb)
 obtain ⟨A, eA⟩ : ∃ A, A = Value.agg (msA m a13 a14 a15 a16 c13 c14 c15 c16).toArray := ⟨_, rfl⟩
 have HAg := hid eA
 have hBo := rd_b (byT m)
 have HO := hid (fun (u : World) (hu : Below w.heap.size w u) => kownMsg_any m a13 a14 a15 a16 c13 c14 c15 c16 u hB (hL.under hu))
 have HF := hid (And.intro hfm (And.intro (mem_len (rightC_ep hfm).2).2 (And.intro hl (And.intro hls hch))))
 have HZ := hid (And.intro hcm (And.intro hac hob))
 rw [← eA] at HO
 replace hBo : MsB (ownM m) := hBo
 have HBo := hid hBo
 generalize ownM m = n at HO HBo hkn ⊢
 clear h hb hx hfm hl hls hch hcm hac hob hB hL hBo
 unfold msA
 simp only [msA] at HA eA
 replace HA := hid HA
 have q1 : (n.k == 8) = false := by simpa using hkn.1
 have q2 : (n.k == 10) = false := by simpa using hkn.2
 clear hkn
 go_enter Tryz.func17, Tryz.ntmps17
 try simp only [List.append]
 go_upto_region 1 with fail
 rw [HA.out, ← eA]
 clear eA
 go_wp2_with (first
   | (have := H1; refine wl_store_blk rfl 48 _ _ rfl w.heap.size 0 rfl _ HV.out (msA m a13 a14 a15 a16 c13 c14 c15 c16) 48 H1.out.2.1 (by simp [msA]) (by kernel_rfl) (by simp [msA, Value.oneCell']) ?_; go_must (intro w2 Hz; have H2 : Hid (Below w.heap.size w w2 ∧ BxAt w2 w.heap.size (msA n b13 b14 b15 b16 d13 d14 d15 d16) 48 ∧ MsL (fun k => w.heap.size + 1 ≤ k) w2 n (.slice b13 n.nx.length d13) (.slice b14 n.sg.length d14) (.slice b15 n.cg.length d15) (.slice b16 n.ln.length d16)) := hid ⟨Hz.out.2.below H1.out.1 (Nat.le_refl _), Hz.out.1, H1.out.2.2.kept Hz.out.2 (by show ¬ w.heap.size + 1 ≤ w.heap.size; omega)⟩; clear Hz; have x0 := H2.out.2.1.cell 0 _ rfl))
   | (have := H0; go_at_call 48; go_must (refine (HO.out _ H0.out.2).mono ?_; rintro e w1 ⟨v, b13, b14, b15, b16, d13, d14, d15, d16, rfl, hv, hl, hr, hb⟩; have HV := hid hv; have HRm := hid hr; have H1 : Hid (Below w.heap.size w w1 ∧ BxAt w1 w.heap.size (msA m a13 a14 a15 a16 c13 c14 c15 c16) 48 ∧ MsL (fun k => w.heap.size + 1 ≤ k) w1 n (.slice b13 n.nx.length d13) (.slice b14 n.sg.length d14) (.slice b15 n.cg.length d15) (.slice b16 n.ln.length d16)) := hid ⟨H0.out.2.trans (hb.mono H0.out.2.size), H0.out.1.keep hb, hl.mono (fun k _ hk => by have h9 : wa.heap.size ≤ k := hk; have := lt_of_blk H0.out.1; show w.heap.size + 1 ≤ k; omega)⟩; clear hv hr hl hb))
   | (refine wl_loadB rfl 48 _ rfl w.heap.size 0 rfl (msA m a13 a14 a15 a16 c13 c14 c15 c16) 48 H0.out.1 _ Tryz.underlying48 rfl (by kernel_rfl) A HAg.out rfl ?_))
 go_ret
 exact ⟨rfl, HdPost.same HH.out H2.out.1⟩
set_option maxHeartbeats 6400000 in
theorem khandle_reply {F : Nat → Prop} (h : ClM O N w g vt vc va fm ls c) (hfm : rightC 0 fm = true) (hl : ls.length ≤ 900) (hls : ∀ k, k ∈ ls → k.2.1.length ≤ 10) (hch : chainE 0 fm [] ls = 0) (hcm : (c.cm.length + 1) * 32 ≤ 140737488355328) (hac : (c.ac.length + 1) * 72 ≤ 140737488355328) (hob : c.op.b < 18446744073709551616) (m : Ms) (a13 a14 a15 a16 : Option Addr) (c13 c14 c15 c16 : Nat) (now fr : Int) (hB : MsB m) (hL : MsL F w m (.slice a13 m.nx.length c13) (.slice a14 m.sg.length c14) (.slice a15 m.cg.length c15) (.slice a16 m.ln.length c16)) (hkn : (ownM m).k = 8) :
   Calls Tryz.prog 17 #[.pointer (some ⟨g, 0, none⟩), .int .i64 now, .int .i64 fr, .agg (msA m a13 a14 a15 a16 c13 c14 c15 c16).toArray] w fun e w' => e = .returned (.slice none 0 0) ∧ HdPost O N w w' g vt vc va fm ls (repC fm ls c fr (ownM m)) := by
 obtain ⟨wa, HA, hb, hx⟩ := msA_new m a13 a14 a15 a16 c13 c14 c15 c16 48 w
 have HH := hid h
 obtain ⟨gt, hgt⟩ := h.tr.isptr
 subst hgt
 have H0 := hid (And.intro hx hb)
 obtain ⟨A, eA⟩ : ∃ A, A = Value.agg (msA m a13 a14 a15 a16 c13 c14 c15 c16).toArray := ⟨_, rfl⟩
 have HAg := hid eA
 have hBo := rd_b (byT m)
 have HO := hid (fun (u : World) (hu : Below w.heap.size w u) => kownMsg_any m a13 a14 a15 a16 c13 c14 c15 c16 u hB (hL.under hu))
 have HF := hid (And.intro hfm (And.intro (mem_len (rightC_ep hfm).2).2 (And.intro hl (And.intro hls hch))))
 have HZ := hid (And.intro hcm (And.intro hac hob))
 rw [← eA] at HO
 replace hBo : MsB (ownM m) := hBo
 have HBo := hid hBo
 generalize ownM m = n at HO HBo hkn ⊢
 clear h hb hx hfm hl hls hch hcm hac hob hB hL hBo
 unfold msA
 simp only [msA] at HA eA
 replace HA := hid HA
 have q1 : (n.k == 8) = true := by simpa using hkn
 have q2 : (n.k == 10) = false := by rw [hkn]; rfl
 clear hkn
 go_enter Tryz.func17, Tryz.ntmps17
 try simp only [List.append]
 go_upto_region 1 with fail
 rw [HA.out, ← eA]
 clear eA
 go_wp2_with (first
   | (have := H2; go_at_call 49; go_must (rw [HV.out]; refine (kreply_any (HH.out.keep H2.out.1) HF.out.2.1 HF.out.2.2.1 HF.out.2.2.2.1 HZ.out.1 HZ.out.2.1 HZ.out.2.2 n b13 b14 b15 b16 d13 d14 d15 d16 fr HBo.out.rq.2.2.2 HBo.out.rf).mono ?_; rintro e w3 ⟨rfl, hp⟩; have H3 := hid (HdPost.pre H2.out.1 hp.hd); clear hp x0))
   | (have := H2; refine wl_loadB rfl 48 _ rfl w.heap.size 0 rfl (msA n b13 b14 b15 b16 d13 d14 d15 d16) 48 H2.out.2.1 _ Tryz.underlying48 rfl (by kernel_rfl) v HV.out rfl ?_)
   | (have := H1; refine wl_store_blk rfl 48 _ _ rfl w.heap.size 0 rfl _ HV.out (msA m a13 a14 a15 a16 c13 c14 c15 c16) 48 H1.out.2.1 (by simp [msA]) (by kernel_rfl) (by simp [msA, Value.oneCell']) ?_; go_must (intro w2 Hz; have H2 : Hid (Below w.heap.size w w2 ∧ BxAt w2 w.heap.size (msA n b13 b14 b15 b16 d13 d14 d15 d16) 48 ∧ MsL (fun k => w.heap.size + 1 ≤ k) w2 n (.slice b13 n.nx.length d13) (.slice b14 n.sg.length d14) (.slice b15 n.cg.length d15) (.slice b16 n.ln.length d16)) := hid ⟨Hz.out.2.below H1.out.1 (Nat.le_refl _), Hz.out.1, H1.out.2.2.kept Hz.out.2 (by show ¬ w.heap.size + 1 ≤ w.heap.size; omega)⟩; clear Hz; have x0 := H2.out.2.1.cell 0 _ rfl))
   | (have := H0; go_at_call 48; go_must (refine (HO.out _ H0.out.2).mono ?_; rintro e w1 ⟨v, b13, b14, b15, b16, d13, d14, d15, d16, rfl, hv, hl, hr, hb⟩; have HV := hid hv; have HRm := hid hr; have H1 : Hid (Below w.heap.size w w1 ∧ BxAt w1 w.heap.size (msA m a13 a14 a15 a16 c13 c14 c15 c16) 48 ∧ MsL (fun k => w.heap.size + 1 ≤ k) w1 n (.slice b13 n.nx.length d13) (.slice b14 n.sg.length d14) (.slice b15 n.cg.length d15) (.slice b16 n.ln.length d16)) := hid ⟨H0.out.2.trans (hb.mono H0.out.2.size), H0.out.1.keep hb, hl.mono (fun k _ hk => by have h9 : wa.heap.size ≤ k := hk; have := lt_of_blk H0.out.1; show w.heap.size + 1 ≤ k; omega)⟩; clear hv hr hl hb))
   | (refine wl_loadB rfl 48 _ rfl w.heap.size 0 rfl (msA m a13 a14 a15 a16 c13 c14 c15 c16) 48 H0.out.1 _ Tryz.underlying48 rfl (by kernel_rfl) A HAg.out rfl ?_))
 go_ret
 exact ⟨rfl, H3.out⟩
set_option maxHeartbeats 6400000 in
theorem khandle_state {F : Nat → Prop} (h : ClM O N w g vt vc va fm ls c) (hfm : rightC 0 fm = true) (hl : ls.length ≤ 900) (hls : ∀ k, k ∈ ls → k.2.1.length ≤ 10) (hch : chainE 0 fm [] ls = 0) (hcm : (c.cm.length + 1) * 32 ≤ 140737488355328) (hac : (c.ac.length + 1) * 72 ≤ 140737488355328) (hob : c.op.b < 18446744073709551616) (m : Ms) (a13 a14 a15 a16 : Option Addr) (c13 c14 c15 c16 : Nat) (now fr : Int) (hB : MsB m) (hL : MsL F w m (.slice a13 m.nx.length c13) (.slice a14 m.sg.length c14) (.slice a15 m.cg.length c15) (.slice a16 m.ln.length c16)) (hkn : (ownM m).k = 10) :
   Calls Tryz.prog 17 #[.pointer (some ⟨g, 0, none⟩), .int .i64 now, .int .i64 fr, .agg (msA m a13 a14 a15 a16 c13 c14 c15 c16).toArray] w fun e w' => e = .returned (.slice none 0 0) ∧ HdPost O N w w' g vt vc va fm (if takeE 0 fm ls ((ownM m).ln.map toLk) = 0 then (ownM m).ln.map toLk else ls) c := by
 obtain ⟨wa, HA, hb, hx⟩ := msA_new m a13 a14 a15 a16 c13 c14 c15 c16 48 w
 have HH := hid h
 obtain ⟨gt, hgt⟩ := h.tr.isptr
 subst hgt
 have H0 := hid (And.intro hx hb)
 obtain ⟨A, eA⟩ : ∃ A, A = Value.agg (msA m a13 a14 a15 a16 c13 c14 c15 c16).toArray := ⟨_, rfl⟩
 have HAg := hid eA
 have hBo := rd_b (byT m)
 have HO := hid (fun (u : World) (hu : Below w.heap.size w u) => kownMsg_any m a13 a14 a15 a16 c13 c14 c15 c16 u hB (hL.under hu))
 have HF := hid (And.intro hfm (And.intro (mem_len (rightC_ep hfm).2).2 (And.intro hl (And.intro hls hch))))
 have HZ := hid (And.intro hcm (And.intro hac hob))
 rw [← eA] at HO
 replace hBo : MsB (ownM m) := hBo
 have HBo := hid hBo
 generalize ownM m = n at HO HBo hkn ⊢
 clear h hb hx hfm hl hls hch hcm hac hob hB hL hBo
 unfold msA
 simp only [msA] at HA eA
 replace HA := hid HA
 have q1 : (n.k == 8) = false := by rw [hkn]; rfl
 have q2 : (n.k == 10) = true := by simpa using hkn
 clear hkn
 obtain ⟨LX, eX⟩ : ∃ LX, LX = (if takeE 0 fm ls (n.ln.map toLk) = 0 then n.ln.map toLk else ls) := ⟨_, rfl⟩
 rw [← eX]
 have HLX := hid eX
 clear eX
 go_enter Tryz.func17, Tryz.ntmps17
 try simp only [List.append]
 go_upto_region 1 with fail
 rw [HA.out, ← eA]
 clear eA
 go_wp2_with (first
   | (have := H1; refine wl_store_blk rfl 48 _ _ rfl w.heap.size 0 rfl _ HV.out (msA m a13 a14 a15 a16 c13 c14 c15 c16) 48 H1.out.2.1 (by simp [msA]) (by kernel_rfl) (by simp [msA, Value.oneCell']) ?_; go_must (intro w2 Hz; have H2 : Hid (Below w.heap.size w w2 ∧ BxAt w2 w.heap.size (msA n b13 b14 b15 b16 d13 d14 d15 d16) 48 ∧ MsL (fun k => w.heap.size + 1 ≤ k) w2 n (.slice b13 n.nx.length d13) (.slice b14 n.sg.length d14) (.slice b15 n.cg.length d15) (.slice b16 n.ln.length d16)) := hid ⟨Hz.out.2.below H1.out.1 (Nat.le_refl _), Hz.out.1, H1.out.2.2.kept Hz.out.2 (by show ¬ w.heap.size + 1 ≤ w.heap.size; omega)⟩; clear Hz; have x0 := H2.out.2.1.cell 0 _ rfl))
   | (have := H0; go_at_call 48; go_must (refine (HO.out _ H0.out.2).mono ?_; rintro e w1 ⟨v, b13, b14, b15, b16, d13, d14, d15, d16, rfl, hv, hl, hr, hb⟩; have HV := hid hv; have HRm := hid hr; have H1 : Hid (Below w.heap.size w w1 ∧ BxAt w1 w.heap.size (msA m a13 a14 a15 a16 c13 c14 c15 c16) 48 ∧ MsL (fun k => w.heap.size + 1 ≤ k) w1 n (.slice b13 n.nx.length d13) (.slice b14 n.sg.length d14) (.slice b15 n.cg.length d15) (.slice b16 n.ln.length d16)) := hid ⟨H0.out.2.trans (hb.mono H0.out.2.size), H0.out.1.keep hb, hl.mono (fun k _ hk => by have h9 : wa.heap.size ≤ k := hk; have := lt_of_blk H0.out.1; show w.heap.size + 1 ≤ k; omega)⟩; clear hv hr hl hb))
   | (refine wl_loadB rfl 48 _ rfl w.heap.size 0 rfl (msA m a13 a14 a15 a16 c13 c14 c15 c16) 48 H0.out.1 _ Tryz.underlying48 rfl (by kernel_rfl) A HAg.out rfl ?_))
 clear x0
 have HS : Hid (BxAt w2.drew w.heap.size (msA n b13 b14 b15 b16 d13 d14 d15 d16) 48 ∧ BxAt w2.drew g (clC c (.pointer (some ⟨gt, 0, none⟩)) vc va) 94) := hid ⟨H2.out.2.1, (HH.out.keep H2.out.1).blk⟩
 refine wp_region_G (S := fun ww => BxAt ww w.heap.size (msA n b13 b14 b15 b16 d13 d14 d15 d16) 48 ∧ BxAt ww g (clC c (.pointer (some ⟨gt, 0, none⟩)) vc va) 94) (ex := []) (by kernel_rfl) ?_
 try (change wpAnyG _ _ _ _ _ _ _ _ _ (World.drew _))
 refine wpAnyG_take (i := 0) (v := ?v1) rfl (by kernel_rfl) (fun _ _ _ h => h) (Or.inl ⟨by rfl, ?hy1⟩) HS.out ?rest1
 case hy1 => (intro ww _; go_simp; try with_reducible rfl)
 go_simp
 refine wpAnyG_take (i := 1) (v := ?v2) rfl (by kernel_rfl) (fun _ _ _ h => h) (Or.inl ⟨by rfl, ?hy2⟩) HS.out ?rest2
 case hy2 => (intro ww _; go_simp; try with_reducible rfl)
 go_simp
 refine wpAnyG_take (i := 2) (v := ?v3) rfl (by kernel_rfl) (fun _ _ _ h => h) (Or.inl ⟨by rfl, ?hy3⟩) HS.out ?rest3
 case hy3 => (intro ww _; go_simp; try with_reducible rfl)
 go_simp
 refine wpAnyG_take (i := 3) (v := ?v4) rfl (by kernel_rfl) (fun _ _ _ h => h) (Or.inl ⟨by rfl, ?hy4⟩) HS.out ?rest4
 case hy4 => (intro ww hS; obtain ⟨hS1, hS2⟩ := hS; have y1 := hS2.cell 1 _ rfl; have x16 := hS1.cell 16 _ rfl; go_simp; try with_reducible rfl)
 go_simp
 refine wpAnyG_take (i := 4) (v := ?v5) rfl (by kernel_rfl) (fun _ _ _ h => h) (Or.inl ⟨by rfl, ?hy5⟩) HS.out ?rest5
 case hy5 => (intro ww _; go_simp; try with_reducible rfl)
 go_simp
 refine wpAnyG_take (i := 5) (v := ?v6) rfl (by kernel_rfl) (fun _ _ _ h => h) (Or.inl ⟨by rfl, ?hy6⟩) HS.out ?rest6
 case hy6 => (intro ww hS; obtain ⟨hS1, hS2⟩ := hS; have y1 := hS2.cell 1 _ rfl; have x16 := hS1.cell 16 _ rfl; go_simp; try with_reducible rfl)
 go_simp
 refine wpAnyG_all (rs := [6]) (by kernel_rfl) (by simp) ?_
 intro i hi
 obtain rfl := List.mem_singleton.1 hi
 clear hi
 refine wpOp_c rfl (by rfl) (fun K hK => ?_)
 go_simp
 refine (ltake_any O _ fm HF.out.1 ls HF.out.2.2.2.2 (fun k => w.heap.size + 1 ≤ k) (.slice b16 n.ln.length d16) (n.ln.map toLk) (fun k hk => by obtain ⟨x, hx, rfl⟩ := List.mem_map.1 hk; exact ⟨(HBo.out.ln.2 x hx).2.1.1, (HBo.out.ln.2 x hx).2.2.1⟩) (by rw [List.length_map]; exact HBo.out.ln.1) (fun ad k c he => by simp only [Value.slice.injEq] at he; have := HRm.out; omega) w2.drew (HH.out.keep H2.out.1.drew).tr (by have := (H2.out.2.2.under (Below.refl _ _).drew).ln; rwa [dLns_lk] at this)).mono ?_
 rintro e w3 ⟨rfl, ho, O', ht, hO⟩
 have H3 : Hid (HdPost O N w w3 g (.pointer (some ⟨gt, 0, none⟩)) vc va fm LX c) := hid (by rw [HLX.out]; exact HdPost.pre H2.out.1.drew ((HH.out.keep H2.out.1.drew).newtr ho ht hO))
 have HS3 : Hid (BxAt w3 w.heap.size (msA n b13 b14 b15 b16 d13 d14 d15 d16) 48 ∧ BxAt w3 g (clC c (.pointer (some ⟨gt, 0, none⟩)) vc va) 94) := hid ⟨(ho.block _ (lt_of_blk H2.out.2.1) (fun hq => by have := HH.out.tr.lt _ hq; omega)).trans H2.out.2.1, (ho.block g (lt_of_blk HS.out.2) HH.out.gO).trans HS.out.2⟩
 clear ho ht hO
 refine hK _ _ ⟨fun _ => HS3.out, ?_⟩
 clear hK K
 go_simp
 refine wpAnyG_done (by kernel_rfl) ?_ _
 go_simp
 go_wp2
 go_ret
 exact ⟨rfl, H3.out⟩
theorem khandle_any {F : Nat → Prop} (h : ClM O N w g vt vc va fm ls c) (hfm : rightC 0 fm = true) (hl : ls.length ≤ 900) (hls : ∀ k, k ∈ ls → k.2.1.length ≤ 10) (hch : chainE 0 fm [] ls = 0) (hcm : (c.cm.length + 1) * 32 ≤ 140737488355328) (hac : (c.ac.length + 1) * 72 ≤ 140737488355328) (hob : c.op.b < 18446744073709551616) (m : Ms) (a13 a14 a15 a16 : Option Addr) (c13 c14 c15 c16 : Nat) (now fr : Int) (hB : MsB m) (hL : MsL F w m (.slice a13 m.nx.length c13) (.slice a14 m.sg.length c14) (.slice a15 m.cg.length c15) (.slice a16 m.ln.length c16)) :
   Calls Tryz.prog 17 #[.pointer (some ⟨g, 0, none⟩), .int .i64 now, .int .i64 fr, .agg (msA m a13 a14 a15 a16 c13 c14 c15 c16).toArray] w fun e w' => e = .returned (.slice none 0 0) ∧ HdPost O N w w' g vt vc va fm (hdlL fm ls m) (hdlC fm ls c fr m) := by
 unfold hdlL hdlC
 by_cases h8 : (ownM m).k = 8
 · rw [if_neg (by rw [h8]; rintro ⟨h, _⟩; cases h), if_pos h8]
   exact khandle_reply h hfm hl hls hch hcm hac hob m a13 a14 a15 a16 c13 c14 c15 c16 now fr hB hL h8
 · rw [if_neg h8]
   by_cases h10 : (ownM m).k = 10
   · have e : (if (ownM m).k = 10 ∧ takeE 0 fm ls ((ownM m).ln.map toLk) = 0 then (ownM m).ln.map toLk else ls) = (if takeE 0 fm ls ((ownM m).ln.map toLk) = 0 then (ownM m).ln.map toLk else ls) := by
       by_cases ht : takeE 0 fm ls ((ownM m).ln.map toLk) = 0
       · rw [if_pos ⟨h10, ht⟩, if_pos ht]
       · rw [if_neg (fun h => ht h.2), if_neg ht]
     rw [e]
     exact khandle_state h hfm hl hls hch hcm hac hob m a13 a14 a15 a16 c13 c14 c15 c16 now fr hB hL h10
   · rw [if_neg (fun h => h10 h.1)]
     exact khandle_no h hfm hl hls hch hcm hac hob m a13 a14 a15 a16 c13 c14 c15 c16 now fr hB hL ⟨h8, h10⟩
end
end Go.Proofs.YtoepppkadpjonaaGreat
