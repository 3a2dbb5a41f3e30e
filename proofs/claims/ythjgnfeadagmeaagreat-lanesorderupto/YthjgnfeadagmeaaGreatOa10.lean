/- Texts laid together: OpP OpQ LnNx LnO. -/
import Derived.Test.YthjgnfeadagmeaaGreatLnMM
import Derived.Test.YthjgnfeadagmeaaGreatOa5
/- A packet as an argument. No walk here. -/
namespace Go.Proofs.YthjgnfeadagmeaaGreat
open Go.ChangeShapes Go.WideShapes Go.ChangeAt Go.RowKit

def shPkt : Sh := .st (.c .i (.c .i (.c shMsg .u)))
theorem of_pkt : shPkt.Of Tryz.prog (.inl 50) := ⟨_, Tryz.underlying50, by kernel_rfl, ⟨_, _, rfl, rfl, by kernel_rfl, Tryz.underlying3, ⟨_, _, rfl, rfl, by kernel_rfl, Tryz.underlying3, ⟨_, _, rfl, rfl, by kernel_rfl, of_msg, rfl⟩⟩⟩⟩
def pktR (q : Pkt) : Prop := iR q.1 ∧ iR q.2.1 ∧ MsB q.2.2
theorem fit_pkt {S : Prop} {U : Nat} {ds : List Dat} (h : Fits S U shPkt ds) : ∃ q : Pkt, ds = dPk q ∧ pktR q := by
  obtain ⟨d1, r1, rfl, ⟨fr, rfl, h1⟩, d2, r2, rfl, ⟨tg, rfl, h2⟩, d3, r3, rfl, h3, rfl⟩ := h
  obtain ⟨m, rfl, hm⟩ := fit_msg h3
  exact ⟨(fr, tg, m), by simp [dPk], h1, h2, hm⟩
section
variable {H : Type} {enc : TypeId × Value → H} {W : World} {fuel : Nat} {x : DataW H × List MemPlace}
theorem open_pkt {c0 c1 c2 c3 c4 c5 c6 c7 c8 c9 c10 c11 c12 c13 c14 c15 c16 c17 c18 : Value} (h : DataW.trod enc Tryz.prog W 0 (fun _ => true) true fuel 50 [c0, c1, c2, c3, c4, c5, c6, c7, c8, c9, c10, c11, c12, c13, c14, c15, c16, c17, c18] = some x) :
    ∃ (q : Pkt) (a13 : Option Addr) (k13 : Nat) (a14 : Option Addr) (k14 : Nat) (a15 : Option Addr) (k15 : Nat) (a16 : Option Addr) (k16 : Nat), (c0 = .int .i64 q.1 ∧ c1 = .int .i64 q.2.1 ∧ c2 = .int .i64 q.2.2.k ∧ c3 = .int .i64 q.2.2.ep ∧ c4 = .int .i64 q.2.2.v ∧ c5 = .int .i64 q.2.2.sl ∧ c6 = .int .i64 q.2.2.rq.c ∧ c7 = .int .i64 q.2.2.rq.st ∧ c8 = .int .i64 q.2.2.rq.k ∧ c9 = .string q.2.2.rq.key ∧ c10 = .float .f64 q.2.2.rq.b ∧ c11 = .int .i64 q.2.2.rq.id ∧ c12 = .int .i64 q.2.2.rs.1 ∧ c13 = .float .f64 q.2.2.rs.2 ∧ c14 = .string q.2.2.tx ∧ c15 = .slice a13 q.2.2.nx.length k13 ∧ c16 = .slice a14 q.2.2.sg.length k14 ∧ c17 = .slice a15 q.2.2.cg.length k15 ∧ c18 = .slice a16 q.2.2.ln.length k16) ∧ pktR q ∧ MsL (fun _ => True) W q.2.2 (.slice a13 q.2.2.nx.length k13) (.slice a14 q.2.2.sg.length k14) (.slice a15 q.2.2.cg.length k15) (.slice a16 q.2.2.ln.length k16) := by
  obtain ⟨ds, hf, hc⟩ := (opens_all Tryz.prog shPkt).1 _ _ _ _ of_pkt h
  obtain ⟨q, rfl, hB⟩ := fit_pkt hf
  obtain ⟨_, q0, r0, _⟩ := hc 0 _ rfl
  obtain ⟨_, q1, r1, _⟩ := hc 1 _ rfl
  obtain ⟨_, q2, r2, _⟩ := hc 2 _ rfl
  obtain ⟨_, q3, r3, _⟩ := hc 3 _ rfl
  obtain ⟨_, q4, r4, _⟩ := hc 4 _ rfl
  obtain ⟨_, q5, r5, _⟩ := hc 5 _ rfl
  obtain ⟨_, q6, r6, _⟩ := hc 6 _ rfl
  obtain ⟨_, q7, r7, _⟩ := hc 7 _ rfl
  obtain ⟨_, q8, r8, _⟩ := hc 8 _ rfl
  obtain ⟨_, q9, r9, _⟩ := hc 9 _ rfl
  obtain ⟨_, q10, r10, _⟩ := hc 10 _ rfl
  obtain ⟨_, q11, r11, _⟩ := hc 11 _ rfl
  obtain ⟨_, q12, r12, _⟩ := hc 12 _ rfl
  obtain ⟨_, q13, r13, _⟩ := hc 13 _ rfl
  obtain ⟨_, q14, r14, _⟩ := hc 14 _ rfl
  obtain ⟨_, q15, r15, _⟩ := hc 15 _ rfl
  obtain ⟨_, q16, r16, _⟩ := hc 16 _ rfl
  obtain ⟨_, q17, r17, _⟩ := hc 17 _ rfl
  obtain ⟨_, q18, r18, _⟩ := hc 18 _ rfl
  cases q0; cases q1; cases q2; cases q3; cases q4; cases q5; cases q6; cases q7; cases q8; cases q9; cases q10; cases q11; cases q12; cases q13; cases q14; cases q15; cases q16; cases q17; cases q18
  obtain ⟨a13, k13, e13, _, _⟩ := reads_ints r15
  obtain ⟨a14, k14, e14, _, _⟩ := reads_pairs r16
  obtain ⟨a15, k15, e15⟩ := r17.form
  obtain ⟨a16, k16, e16⟩ := r18.form
  rw [List.length_map] at e15 e16
  subst e13 e14 e15 e16
  exact ⟨q, a13, k13, a14, k14, a15, k15, a16, k16, ⟨r0.int, r1.int, r2.int, r3.int, r4.int, r5.int, r6.int, r7.int, r8.int, r9.str, r10.flt, r11.int, r12.int, r13.flt, r14.str, rfl, rfl, rfl, rfl⟩, hB, ⟨r15, r16, r17, r18⟩⟩
end
end Go.Proofs.YthjgnfeadagmeaaGreat

/- Lists of packets, scripts of the lanes' laws, as arguments, with bounds out of their bulk. No walk here. -/
namespace Go.Proofs.YthjgnfeadagmeaaGreat
open Go.ChangeShapes Go.WideShapes Go.ChangeAt Go.RowKit

section
variable {S : Prop} {U : Nat}
theorem fitU_ints {ds : List Dat} (h : Fits S U shInts ds) : ∃ xs : List Int, ds = [dInts xs] ∧ intsR xs ∧ xs.length ≤ U := by
  obtain ⟨es, rfl, h1, _, h2, h3⟩ := h
  obtain ⟨xs, rfl, h4⟩ := fits_map (f := fun x : Int => [Dat.i x]) (Q := iR) es (fun d hd => by obtain ⟨x, hx, hr⟩ := h3 d hd; exact ⟨x, hx, hr⟩)
  rw [List.length_map] at h1 h2
  exact ⟨xs, rfl, ⟨h1, h4⟩, h2⟩
theorem fitU_sig {ds : List Dat} (h : Fits S U shSig ds) : ∃ p : Sg, ds = [.i p.1, .s p.2] ∧ (iR p.1 ∧ p.2.size ≤ maxLen) ∧ p.2.size ≤ U := by
  obtain ⟨d1, d2, rfl, ⟨x, rfl, hx⟩, d3, d4, rfl, ⟨y, rfl, hy, _, hu⟩, rfl⟩ := h
  exact ⟨(x, y), rfl, ⟨hx, hy⟩, hu⟩
theorem fitU_sigs {ds : List Dat} (h : Fits S U shSigs ds) : ∃ ps : List Sg, ds = [dPairs ps] ∧ sgsR ps ∧ ps.length ≤ U ∧ ∀ p, p ∈ ps → p.2.size ≤ U := by
  obtain ⟨es, rfl, h1, _, h2, h3⟩ := h
  obtain ⟨ps, rfl, h4⟩ := fits_map (f := fun p : Sg => [Dat.i p.1, Dat.s p.2]) (Q := fun p => (iR p.1 ∧ p.2.size ≤ maxLen) ∧ p.2.size ≤ U) es (fun d hd => fitU_sig (h3 d hd))
  rw [List.length_map] at h1 h2
  exact ⟨ps, rfl, ⟨h1, fun p hp => (h4 p hp).1⟩, h2, fun p hp => (h4 p hp).2⟩
theorem fitU_req {ds : List Dat} (h : Fits S U shReq ds) : ∃ r : Rq, ds = [.i r.c, .i r.st, .i r.k, .s r.key, .f r.b, .i r.id] ∧ rqR r ∧ r.key.size ≤ U := by
  obtain ⟨d1, d2, rfl, ⟨c, rfl, hc⟩, d3, d4, rfl, ⟨st, rfl, hst⟩, d5, d6, rfl, ⟨d7, d8, rfl, ⟨k, rfl, hk⟩, d9, d10, rfl, ⟨key, rfl, hkey, _, hu⟩, d11, d12, rfl, ⟨b, rfl, hb⟩, d13, d14, rfl, ⟨id, rfl, hid⟩, rfl⟩, rfl⟩ := h
  exact ⟨⟨c, st, k, key, b, id⟩, rfl, ⟨⟨hc, hst⟩, ⟨hk, hid⟩, hkey, hb⟩, hu⟩
def ctU (U : Nat) (c : Ct) : Prop := c.2.2.1.key.size ≤ U ∧ c.2.2.2.length ≤ U ∧ ∀ p, p ∈ c.2.2.2 → p.2.size ≤ U
def cgU (U : Nat) (c : Cg) : Prop := c.2.2.1.length ≤ U ∧ (∀ x, x ∈ c.2.2.1 → ctU U x) ∧ c.2.2.2.2.size ≤ U
def lnU (U : Nat) (k : Ln) : Prop := k.1.2.length ≤ U ∧ k.2.length ≤ U ∧ ∀ p, p ∈ k.2 → p.2.size ≤ U
theorem fitU_cert {ds : List Dat} (h : Fits S U shCert ds) : ∃ c : Ct, ds = dCt c ∧ ctR c ∧ ctU U c := by
  obtain ⟨d1, d2, rfl, ⟨v, rfl, hv⟩, d3, d4, rfl, ⟨sl, rfl, hsl⟩, d5, d6, rfl, hr, d7, d8, rfl, hs, rfl⟩ := h
  obtain ⟨r, rfl, hr2, hr3⟩ := fitU_req hr
  obtain ⟨ps, rfl, hp, hp2⟩ := fitU_sigs hs
  exact ⟨(v, sl, r, ps), rfl, ⟨⟨hv, hsl⟩, hr2, hp⟩, hr3, hp2⟩
theorem fitU_certs {ds : List Dat} (h : Fits S U shCerts ds) : ∃ l : List Ct, ds = [dCts l] ∧ (l.length ≤ maxLen ∧ ∀ x, x ∈ l → ctR x) ∧ l.length ≤ U ∧ ∀ x, x ∈ l → ctU U x := by
  obtain ⟨es, rfl, h1, _, h2, h3⟩ := h
  obtain ⟨l, rfl, h4⟩ := fits_map (f := dCt) (Q := fun c => ctR c ∧ ctU U c) es (fun d hd => fitU_cert (h3 d hd))
  rw [List.length_map] at h1 h2
  exact ⟨l, rfl, ⟨h1, fun x hx => (h4 x hx).1⟩, h2, fun x hx => (h4 x hx).2⟩
theorem fitU_chg {ds : List Dat} (h : Fits S U shChg ds) : ∃ c : Cg, ds = dCg c ∧ cgR c ∧ cgU U c := by
  obtain ⟨d1, d2, rfl, ⟨v, rfl, hv⟩, d3, d4, rfl, ⟨sl, rfl, hsl⟩, d5, d6, rfl, hr, d7, d8, rfl, hs, rfl⟩ := h
  obtain ⟨l, rfl, hl, hl2, hl3⟩ := fitU_certs hr
  obtain ⟨p, rfl, hp, hp2⟩ := fitU_sig hs
  exact ⟨(v, sl, l, p), rfl, ⟨⟨hv, hsl⟩, hl, hp⟩, hl2, hl3, hp2⟩
theorem fitU_chgs {ds : List Dat} (h : Fits S U shChgs ds) : ∃ l : List Cg, ds = [dCgs l] ∧ (l.length ≤ maxLen ∧ ∀ x, x ∈ l → cgR x) ∧ l.length ≤ U ∧ ∀ x, x ∈ l → cgU U x := by
  obtain ⟨es, rfl, h1, _, h2, h3⟩ := h
  obtain ⟨l, rfl, h4⟩ := fits_map (f := dCg) (Q := fun c => cgR c ∧ cgU U c) es (fun d hd => fitU_chg (h3 d hd))
  rw [List.length_map] at h1 h2
  exact ⟨l, rfl, ⟨h1, fun x hx => (h4 x hx).1⟩, h2, fun x hx => (h4 x hx).2⟩
theorem fitU_link {ds : List Dat} (h : Fits S U shLink ds) : ∃ k : Ln, ds = dLn k ∧ lnR k ∧ lnU U k := by
  obtain ⟨d1, d2, rfl, ⟨d5, d6, rfl, ⟨x, rfl, hx⟩, d7, d8, rfl, hi, rfl⟩, d3, d4, rfl, h3, rfl⟩ := h
  obtain ⟨xs, rfl, h4, h5⟩ := fitU_ints hi
  obtain ⟨ps, rfl, h6, h7⟩ := fitU_sigs h3
  exact ⟨((x, xs), ps), rfl, ⟨hx, h4, h6⟩, h5, h7⟩
theorem fitU_links {ds : List Dat} (h : Fits S U shLinks ds) : ∃ l : List Ln, ds = [dLns l] ∧ (l.length ≤ maxLen ∧ ∀ x, x ∈ l → lnR x) ∧ l.length ≤ U ∧ ∀ x, x ∈ l → lnU U x := by
  obtain ⟨es, rfl, h1, _, h2, h3⟩ := h
  obtain ⟨l, rfl, h4⟩ := fits_map (f := dLn) (Q := fun c => lnR c ∧ lnU U c) es (fun d hd => fitU_link (h3 d hd))
  rw [List.length_map] at h1 h2
  exact ⟨l, rfl, ⟨h1, fun x hx => (h4 x hx).1⟩, h2, fun x hx => (h4 x hx).2⟩
structure msU (U : Nat) (m : Ms) : Prop where
  key : m.rq.key.size ≤ U
  tx : m.tx.size ≤ U
  nx : m.nx.length ≤ U
  sg : m.sg.length ≤ U ∧ ∀ p, p ∈ m.sg → p.2.size ≤ U
  cg : m.cg.length ≤ U ∧ ∀ c, c ∈ m.cg → cgU U c
  ln : m.ln.length ≤ U ∧ ∀ c, c ∈ m.ln → lnU U c
theorem fitU_msg {ds : List Dat} (h : Fits S U shMsg ds) : ∃ m : Ms, ds = dMs m ∧ MsB m ∧ msU U m := by
  obtain ⟨d1, d2, rfl, ⟨k, rfl, hk⟩, d3, d4, rfl, ⟨ep, rfl, hep⟩, d5, d6, rfl, ⟨v, rfl, hv⟩, d7, d8, rfl, ⟨sl, rfl, hsl⟩, d9, d10, rfl, hr, d11, d12, rfl, ⟨e1, e2, rfl, ⟨rc, rfl, hrc⟩, e3, e4, rfl, ⟨rf, rfl, hrf⟩, rfl⟩, d13, d14, rfl, ⟨tx, rfl, htx, _, htu⟩, d15, d16, rfl, hi, d17, d18, rfl, hs, d19, d20, rfl, hc, d21, d22, rfl, hl, rfl⟩ := h
  obtain ⟨r, rfl, hr2, hr3⟩ := fitU_req hr
  obtain ⟨xs, rfl, hx, hx2⟩ := fitU_ints hi
  obtain ⟨ps, rfl, hp, hp2⟩ := fitU_sigs hs
  obtain ⟨cg, rfl, hcg, hcg2⟩ := fitU_chgs hc
  obtain ⟨ln, rfl, hln, hln2⟩ := fitU_links hl
  exact ⟨⟨k, ep, v, sl, r, (rc, rf), tx, xs, ps, cg, ln⟩, rfl, ⟨hk, hep, hv, hsl, hr2, hrc, hrf, htx, hx, hp, hcg, hln⟩, ⟨hr3, htu, hx2, hp2, hcg2, hln2⟩⟩
theorem msU.s {m : Ms} (h : msU U m) (hU : U ≤ 1048576) : msS m := by
  have hsg : ∀ l : List Sg, l.length ≤ U → (∀ p, p ∈ l → p.2.size ≤ U) → sgsS l := fun l h1 h2 => ⟨by omega, fun p hp => by have := h2 p hp; show p.2.size ≤ 281474976710656; omega⟩
  refine ⟨by have := h.key; omega, by have := h.tx; omega, by have := h.nx; omega, hsg _ h.sg.1 h.sg.2, ⟨by have := h.cg.1; omega, fun c hc => ?_⟩, ⟨by have := h.ln.1; omega, fun k hk => ?_⟩⟩
  · obtain ⟨h1, h2, h3⟩ := h.cg.2 c hc
    refine ⟨⟨by omega, fun x hx => ?_⟩, by show c.2.2.2.2.size ≤ 281474976710656; omega⟩
    obtain ⟨h4, h5, h6⟩ := h2 x hx
    exact ⟨by omega, hsg _ h5 h6⟩
  · obtain ⟨h1, h2, h3⟩ := h.ln.2 k hk
    exact ⟨by omega, hsg _ h2 h3⟩
theorem tm_fitP {m : Ms} (h : MsB m) : ∀ p, p ∈ tmG m → fitP p := by
  intro p hp
  simp only [tmG, List.mem_append, List.mem_flatMap] at hp
  rcases hp with hp | ⟨c, hc, hp⟩ | ⟨k, hk, hp⟩
  · exact h.sg.2 p hp
  · simp only [cgG, List.mem_append, List.mem_flatMap, List.mem_singleton] at hp
    rcases hp with ⟨x, hx, hp⟩ | rfl
    · exact (((h.cg.2 c hc).2.1.2 x hx).2.2).2 p hp
    · exact (h.cg.2 c hc).2.2
  · exact (h.ln.2 k hk).2.2.2 p hp
/-- What is known of a packet that came in. -/
def pkU (U : Nat) (q : Pkt) : Prop := pktR q ∧ msU U q.2.2
theorem fitU_pkt {ds : List Dat} (h : Fits S U shPkt ds) : ∃ q : Pkt, ds = dPk q ∧ pkU U q := by
  obtain ⟨d1, r1, rfl, ⟨fr, rfl, h1⟩, d2, r2, rfl, ⟨tg, rfl, h2⟩, d3, r3, rfl, h3, rfl⟩ := h
  obtain ⟨m, rfl, hm, hm2⟩ := fitU_msg h3
  exact ⟨(fr, tg, m), by simp [dPk], ⟨h1, h2, hm⟩, hm2⟩
def shPkts : Sh := .l 232 19 shPkt
theorem of_pkts : shPkts.Of Tryz.prog (.inl 29) := ⟨_, Tryz.underlying29, by kernel_rfl, by kernel_rfl, rfl, by decide, of_pkt⟩
theorem fitU_pkts {ds : List Dat} (h : Fits S U shPkts ds) : ∃ l : List Pkt, ds = [.l 19 (l.map dPk)] ∧ (l.length ≤ maxLen ∧ l.length ≤ U) ∧ ∀ q, q ∈ l → pkU U q := by
  obtain ⟨es, rfl, h1, _, h2, h3⟩ := h
  obtain ⟨l, rfl, h4⟩ := fits_map (f := dPk) (Q := pkU U) es (fun d hd => fitU_pkt (h3 d hd))
  rw [List.length_map] at h1 h2
  exact ⟨l, rfl, ⟨h1, h2⟩, h4⟩
theorem bk_pks (l : List Pkt) : (l.flatMap fun q => tmG q.2.2).length + l.length ≤ bkLL (l.map dPk) := by
  induction l with
  | nil => exact Nat.le_refl _
  | cons q r ih =>
    rw [List.map_cons, bkLL, List.flatMap_cons, List.length_append, List.length_cons]
    have h1 := bk_tm q.2.2
    have : bkL (dPk q) = bkL (dMs q.2.2) := by simp [dPk, bkL, Dat.bk]
    omega
end
section
variable {H : Type} {enc : TypeId × Value → H} {W : World} {fuel : Nat} {x : DataW H × List MemPlace}
theorem open_pkts {ad : Option Addr} {len cap : Nat} (h : DataW.trod enc Tryz.prog W 0 (fun _ => true) true fuel 29 [.slice ad len cap] = some x) :
    ∃ l : List Pkt, l.length = len ∧ Reads (fun _ => True) W (.slice ad len cap) (.l 19 (l.map dPk)) ∧ (∀ q, q ∈ l → pkU (Rows.uptoBulk x.1) q) ∧ (l.flatMap fun q => tmG q.2.2).length + l.length ≤ Rows.uptoBulk x.1 := by
  obtain ⟨ds, hf, hc, hbk⟩ := (opens_sum Tryz.prog shPkts).1 _ _ _ _ of_pkts h
  obtain ⟨l, rfl, h1, h3⟩ := fitU_pkts hf
  obtain ⟨u0, e0, r0, _⟩ := hc 0 _ rfl
  cases e0
  obtain ⟨ad', cap', hv⟩ := r0.form
  rw [List.length_map] at hv
  cases hv
  have h9 := bk_pks l
  have h8 : bkL [Dat.l 19 (l.map dPk)] = bkLL (l.map dPk) := by simp [bkL, Dat.bk]
  exact ⟨l, rfl, r0, h3, by omega⟩
end
end Go.Proofs.YthjgnfeadagmeaaGreat

/- The program's lane: Inject of one who isn't bad. -/
namespace Go.Proofs.YthjgnfeadagmeaaGreat
open Go.RowKit

section
variable {P : Nat → Prop} {N : Nat} {w w' : World} {v : Value} {bad : List Int} {ps : List Pkt} {L : List Sg} {q : Pkt}
theorem LaneAt.same (h : LaneAt N P w v bad ps L) (hb : Below w.heap.size w w') : LanePost N P w w' v bad ps L := ⟨P, h.keep hb, Outs.ofB hb, fun _ hk => .inl hk⟩
set_option maxRecDepth 100000 in
set_option maxHeartbeats 12800000 in
theorem ninject_far (h : LaneAt N P w v bad ps L) (hbm : bad.length * 8 ≤ 140737488355328) (fr tg : Int) (m : Ms) (hc : hasM bad fr = false) (a13 a14 a15 a16 : Option Addr) (c13 c14 c15 c16 : Nat) :
    Calls Tryz.prog 14 #[v, .agg (pkC fr tg m (.slice a13 m.nx.length c13) (.slice a14 m.sg.length c14) (.slice a15 m.cg.length c15) (.slice a16 m.ln.length c16)).toArray] w fun e w' => e = .returned (.int .i64 1) ∧ LanePost N P w w' v bad ps L := by
  have hA := h
  obtain ⟨F, g, ab, kb, vr, vk, Fb, B, rfl, hM, hP⟩ := h
  obtain ⟨gk, rfl⟩ := hM.bk.form
  obtain ⟨wa, ha, hb, hx⟩ := one_newL (pkC fr tg m (.slice a13 m.nx.length c13) (.slice a14 m.sg.length c14) (.slice a15 m.cg.length c15) (.slice a16 m.ln.length c16)) 50 w
  obtain ⟨_, _, eib, hib, _⟩ := reads_ints hM.bd
  cases eib
  have H0 : Hid (Below w.heap.size w wa.drew ∧ BxAt wa.drew g (lneV ab kb bad vr (.pointer (some ⟨gk, 0, none⟩))) 72 ∧ BxAt wa.drew w.heap.size (pkC fr tg m (.slice a13 m.nx.length c13) (.slice a14 m.sg.length c14) (.slice a15 m.cg.length c15) (.slice a16 m.ln.length c16)) 50) := hid ⟨hb.drew, hM.blk.keep hb.drew, hx⟩
  have HA := hid hA
  have hmb : bad.length ≤ maxLen := by unfold maxLen; omega
  have HCo := hid (fun (u : World) (hu : Below w.heap.size w u) => contains_any ab bad.length kb bad rfl hmb fr u (hib.keep hu (Nat.le_refl _)))
  obtain ⟨A, eA⟩ : ∃ A, A = pkC fr tg m (.slice a13 m.nx.length c13) (.slice a14 m.sg.length c14) (.slice a15 m.cg.length c15) (.slice a16 m.ln.length c16) := ⟨_, rfl⟩
  rw [← eA] at ha ⊢
  have HAg := hid eA
  have HAl := hid ha
  rw [hc] at HCo
  have HC := hid hc
  clear hM hP hA ha hb hx hib hbm hmb eA hc
  unfold ptrV
  go_enter Tryz.func14, Tryz.ntmps14
  go_upto_region 1 with fail
  rw [HAl.out]
  refine wp_region_G (S := fun ww => BxAt ww g (lneV ab kb bad vr (.pointer (some ⟨gk, 0, none⟩))) 72 ∧ BxAt ww w.heap.size (pkC fr tg m (.slice a13 m.nx.length c13) (.slice a14 m.sg.length c14) (.slice a15 m.cg.length c15) (.slice a16 m.ln.length c16)) 50) (ex := []) (by kernel_rfl) ?_
  try (change wpAnyG _ _ _ _ _ _ _ _ _ (World.drew _))
  refine wpAnyG_take (i := 0) (v := ?v1) rfl (by kernel_rfl) (fun _ _ _ h => h) (Or.inl ⟨by rfl, ?hy1⟩) H0.out.2 ?rest1
  case hy1 => (intro ww _; go_simp; try with_reducible rfl)
  go_simp
  refine wpAnyG_take (i := 1) (v := ?v2) rfl (by kernel_rfl) (fun _ _ _ h => h) (Or.inl ⟨by rfl, ?hy2⟩) H0.out.2 ?rest2
  case hy2 => (intro ww _; go_simp; try with_reducible rfl)
  go_simp
  refine wpAnyG_take (i := 2) (v := ?v3) rfl (by kernel_rfl) (fun _ _ _ h => h) (Or.inl ⟨by rfl, ?hy3⟩) H0.out.2 ?rest3
  case hy3 => (intro ww _; go_simp; try with_reducible rfl)
  go_simp
  refine wpAnyG_take (i := 3) (v := ?v4) rfl (by kernel_rfl) (fun _ _ _ h => h) (Or.inl ⟨by rfl, ?hy4⟩) H0.out.2 ?rest4
  case hy4 => (intro ww _; go_simp; try with_reducible rfl)
  go_simp
  refine wpAnyG_take (i := 4) (v := ?v5) rfl (by kernel_rfl) (fun _ _ _ h => h) (Or.inl ⟨by rfl, ?hy5⟩) H0.out.2 ?rest5
  case hy5 => (intro ww _; go_simp; try with_reducible rfl)
  go_simp
  refine wpAnyG_take (i := 5) (v := ?v6) rfl (by kernel_rfl) (fun _ _ _ h => h) (Or.inl ⟨by rfl, ?hy6⟩) H0.out.2 ?rest6
  case hy6 => (intro ww _; go_simp; try with_reducible rfl)
  go_simp
  refine wpAnyG_take (i := 6) (v := ?v7) rfl (by kernel_rfl) (fun _ _ _ h => h) (Or.inl ⟨by rfl, ?hy7⟩) H0.out.2 ?rest7
  case hy7 => (intro ww hS; have y0 := hS.1.cell 0 _ rfl; go_simp; try with_reducible rfl)
  go_simp
  refine wpAnyG_take (i := 7) (v := ?v8) rfl (by kernel_rfl) (fun _ _ _ h => h) (Or.inl ⟨by rfl, ?hy8⟩) H0.out.2 ?rest8
  case hy8 => (intro ww _; go_simp; try with_reducible rfl)
  go_simp
  refine wpAnyG_take (i := 8) (v := ?v9) rfl (by kernel_rfl) (fun _ _ _ h => h) (Or.inl ⟨by rfl, ?hy9⟩) H0.out.2 ?rest9
  case hy9 => (intro ww hS; have z0 := hS.2.cell 0 _ rfl; go_simp; try with_reducible rfl)
  go_simp
  refine wpAnyG_all (rs := [9]) (by kernel_rfl) (by simp) ?_
  intro i hi
  obtain rfl := List.mem_singleton.1 hi
  clear hi
  refine wpOp_n rfl (by rfl) (fun K hK => ?_)
  go_simp
  refine (HCo.out _ H0.out.1).mono ?_
  rintro e w1 ⟨rfl, rfl⟩
  refine hK _ _ ⟨fun _ => H0.out.2, ?_⟩
  clear hK K
  go_simp
  refine wpAnyG_take (i := 10) (v := ?v10) rfl (by kernel_rfl) (fun _ _ _ h => h) (Or.inl ⟨by rfl, ?hy10⟩) H0.out.2 ?rest10
  case hy10 => (intro ww _; go_simp; try with_reducible rfl)
  go_simp
  refine wpAnyG_take (i := 11) (v := ?v11) rfl (by kernel_rfl) (fun _ _ _ h => h) (Or.inl ⟨by rfl, ?hy11⟩) H0.out.2 ?rest11
  case hy11 => (intro ww _; go_simp; try with_reducible rfl)
  go_simp
  refine wpAnyG_done (by kernel_rfl) ?_ _
  go_simp
  go_wp2
  go_ret
  exact ⟨rfl, HA.out.same H0.out.1⟩
end
end Go.Proofs.YthjgnfeadagmeaaGreat

/- The laws' beginning: a packet is sent and taken; a lane that isn't there. -/
namespace Go.Proofs.YthjgnfeadagmeaaGreat
open Go.RowKit

theorem nsend_nil (a : Option Addr) (n cap : Nat) (w : World) : Calls Tryz.prog 12 #[.pointer none, .slice a n cap] w fun e w' => e = .returned (.tuple #[]) ∧ Below w.heap.size w w' := by
  go_enter Tryz.func12, Tryz.ntmps12
  go_wp2
  try simp only [Exit.inBlock, Exit.then]
  refine bodyPost_ret (results_none rfl _ _ _) rfl ?_
  exact ⟨rfl, Below.refl _ _⟩
def fM : Ms := ⟨9, 0, 0, 0, zeroQ, (0, 0), ⟨#[]⟩, [], [], [], []⟩
def fP : Pkt := (1, 2, fM)
theorem fM_b : MsB fM where
  k := ⟨by decide, by decide⟩
  ep := ⟨by decide, by decide⟩
  v := ⟨by decide, by decide⟩
  sl := ⟨by decide, by decide⟩
  rq := ⟨⟨⟨by decide, by decide⟩, ⟨by decide, by decide⟩⟩, ⟨⟨by decide, by decide⟩, ⟨by decide, by decide⟩⟩, by unfold maxLen; decide, by decide⟩
  rc := ⟨by decide, by decide⟩
  rf := by decide
  tx := by unfold maxLen; decide
  nx := ⟨by unfold maxLen; decide, fun x hx => by cases hx⟩
  sg := ⟨by unfold maxLen; decide, fun x hx => by cases hx⟩
  cg := ⟨by unfold maxLen; decide, fun x hx => by cases hx⟩
  ln := ⟨by unfold maxLen; decide, fun x hx => by cases hx⟩
theorem fM_s : msS fM := ⟨by decide, by decide, by decide, ⟨by decide, fun p hp => by cases hp⟩, ⟨by decide, fun p hp => by cases hp⟩, ⟨by decide, fun p hp => by cases hp⟩⟩
theorem fM_t : tmG fM = [] := rfl
theorem fP_n : nrmP fP = fP := by
  have hc : canW 0 = 0 := by decide
  show ((1, 2, ⟨9, 0, 0, 0, ⟨0, 0, 0, ⟨#[]⟩, canW 0, 0⟩, (0, canW 0), ⟨#[]⟩, [], [], [].map nCg, []⟩) : Pkt) = fP
  rw [hc]
  rfl
theorem fP_row {w : World} {b : Nat} (h : BxAt w b (pkC 1 2 fM (.slice none fM.nx.length 0) (.slice none fM.sg.length 0) (.slice none fM.cg.length 0) (.slice none fM.ln.length 0)) 50) : Reads (fun k => k = b) w (.slice (some ⟨b, 0, none⟩) [fP].length 1) (.l 19 ([fP].map dPk)) := by
  refine .l b 0 1 19 [dPk fP] (fun _ q => (pkC 1 2 fM (.slice none fM.nx.length 0) (.slice none fM.sg.length 0) (.slice none fM.cg.length 0) (.slice none fM.ln.length 0)).getD q undef) rfl (lt_of_blk h) (fun j e he => ?_) (fun j e q d he hd => ?_) (fun j e q d he hd => ?_)
  · match j, he with
    | 0, he => cases he; rfl
  · match j, he with
    | 0, he =>
      cases he
      have hq : q < 19 := (List.getElem?_eq_some_iff.1 hd).1
      rw [Nat.zero_mul]
      simp only [Nat.zero_add]
      refine h.cell q _ ?_
      rw [List.getD_eq_getElem?_getD, List.getElem?_eq_getElem (by exact hq)]
      rfl
  · match j, he with
    | 0, he =>
      cases he
      match q, hd with
      | 0, hd => cases hd; exact .i _
      | 1, hd => cases hd; exact .i _
      | 2, hd => cases hd; exact .i _
      | 3, hd => cases hd; exact .i _
      | 4, hd => cases hd; exact .i _
      | 5, hd => cases hd; exact .i _
      | 6, hd => cases hd; exact .i _
      | 7, hd => cases hd; exact .i _
      | 8, hd => cases hd; exact .i _
      | 9, hd => cases hd; exact .s _
      | 10, hd => cases hd; exact .f _
      | 11, hd => cases hd; exact .i _
      | 12, hd => cases hd; exact .i _
      | 13, hd => cases hd; exact .f _
      | 14, hd => cases hd; exact .s _
      | 15, hd => cases hd; exact .nil _ _ _
      | 16, hd => cases hd; exact .nil _ _ _
      | 17, hd => cases hd; exact .nil _ _ _
      | 18, hd => cases hd; exact .nil _ _ _
      | q + 19, hd => cases hd
theorem ints_3 {w : World} {b : Nat} {T : TypeId} (h : BxAt w b [.int .i64 3] T) : IntsIn w (some ⟨b, 0, none⟩) [3] := by
  refine .inr ⟨b, 0, rfl, lt_of_blk h, fun j z hz => ?_⟩
  rw [Nat.zero_add]
  refine h.cell j _ ?_
  match j, hz with
  | 0, hz => cases hz; rfl
  | j + 1, hz => cases hz
/-- A lane of the laws' beginning. -/
def LxAt (w0 w : World) (v : Value) (ps : List Pkt) : Prop := ∃ N P, w0.heap.size ≤ N ∧ LaneAt N P w v [3] ps [] ∧ Below w0.heap.size w0 w
theorem LxAt.same {w0 w w' : World} {v : Value} {ps : List Pkt} (h : LxAt w0 w v ps) (hb : Below w.heap.size w w') : LxAt w0 w' v ps := by
  obtain ⟨N, P, h0, h1, h2⟩ := h
  exact ⟨N, P, h0, h1.keep hb, h2.trans (hb.mono h2.size)⟩
theorem lx_post {w0 w w' : World} {v : Value} {ps ps' : List Pkt} {N : Nat} {P : Nat → Prop} (h0 : w0.heap.size ≤ N) (h1 : LaneAt N P w v [3] ps []) (h2 : Below w0.heap.size w0 w) (h : LanePost N P w w' v [3] ps' []) : LxAt w0 w' v ps' := by
  obtain ⟨P', k1, k2, _⟩ := h
  exact ⟨N, P', h0, k1, h2.trans (k2.below h2.size (fun k hk => Nat.le_trans h0 (h1.low k hk)))⟩
theorem lx_send (w0 w1 w : World) (v : Value) (h : LxAt w0 w1 v []) (hb : Below w1.heap.size w1 w) (hx : BxAt w w1.heap.size (pkC 1 2 fM (.slice none fM.nx.length 0) (.slice none fM.sg.length 0) (.slice none fM.cg.length 0) (.slice none fM.ln.length 0)) 50) : Calls Tryz.prog 12 #[v, .slice (some ⟨w1.heap.size, 0, none⟩) 1 1] w fun e w' => e = .returned (.tuple #[]) ∧ LxAt w0 w' v [fP] := by
  obtain ⟨N, P, h0, h1, h2⟩ := h
  have hP := fun k (hk : P k) => h1.lt k hk
  refine (nsend_any (G := fun k => k = w1.heap.size) (h1.keep hb) [fP] _ 1 (fP_row hx) (fun k hk hq => by have := hP k hq; omega) (by decide) (fun q hq => by
    obtain rfl := List.mem_singleton.1 hq
    exact ⟨fM_s, fM_b.n, fun p hp => by cases hp⟩) ?_).mono ?_
  · decide
  rintro e w' ⟨rfl, hp⟩
  have h9 : LanePost N P w w' v [3] (sendP [] [fP]) (noteP [] [fP]) := hp
  have h7 : noteP [] [fP] = [] := rfl
  rw [h7] at h9
  have h8 : sendP [] [fP] = [fP] := by
    show addP [] (nrmP fP) = [fP]
    rw [fP_n]
    rfl
  rw [h8] at h9
  exact ⟨rfl, lx_post h0 (h1.keep hb) (h2.trans (hb.mono h2.size)) h9⟩
theorem lx_new (w : World) (b : Nat) (hx : IntsIn w (some ⟨b, 0, none⟩) [3]) : Calls Tryz.prog 9 #[.slice (some ⟨b, 0, none⟩) 1 1] w fun e w' => ∃ g, e = .returned (.pointer (some ⟨g, 0, none⟩)) ∧ LxAt w w' (.pointer (some ⟨g, 0, none⟩)) [] := by
  refine (nnew_any (some ⟨b, 0, none⟩) 1 1 [3] rfl (by decide) w hx).mono ?_
  rintro e w' ⟨v, P, rfl, hA, hb⟩
  obtain ⟨g, rfl⟩ := hA.isptr
  exact ⟨g, rfl, _, P, Nat.le_refl _, hA, hb⟩
theorem lx_take (w0 w : World) (v : Value) (h : LxAt w0 w v [fP]) : Calls Tryz.prog 17 #[v, .int .i64 5] w fun e w' => ∃ a13 c13 a14 c14 a15 c15 a16 c16, e = .returned (.tuple #[.agg (pkC 1 2 fM (.slice a13 fM.nx.length c13) (.slice a14 fM.sg.length c14) (.slice a15 fM.cg.length c15) (.slice a16 fM.ln.length c16)).toArray, .bool true]) ∧ MsL (fun _ => True) w' fM (.slice a13 fM.nx.length c13) (.slice a14 fM.sg.length c14) (.slice a15 fM.cg.length c15) (.slice a16 fM.ln.length c16) ∧ LxAt w0 w' v [] := by
  obtain ⟨N, P, h0, h1, h2⟩ := h
  refine (ntake_any h1 (by decide) 5).mono ?_
  rintro e w' ⟨fr, tg, m, a13, c13, a14, c14, a15, c15, a16, c16, P', hq, rfl, hL, hA, hO, hs⟩
  have hp : plN 5 [fP].length = 0 := by decide
  rw [hp] at hq hA
  cases hq
  exact ⟨_, _, _, _, _, _, _, _, rfl, hL.mono2 (fun _ _ _ => trivial), N, P', h0, hA, h2.trans (hO.below h2.size (fun k hk => Nat.le_trans h0 (h1.low k hk)))⟩
theorem lx_len (w0 w : World) (v : Value) (h : LxAt w0 w v []) : Calls Tryz.prog 24 #[v] w fun e w' => e = .returned (.int .i64 0) ∧ Below w.heap.size w w' ∧ LxAt w0 w' v [] := by
  have h9 := h
  obtain ⟨N, P, h0, h1, h2⟩ := h
  refine (nlen_any h1).mono ?_
  rintro e w' ⟨rfl, hb⟩
  exact ⟨rfl, hb, h9.same hb⟩
theorem lx_inject (w0 w : World) (v : Value) (h : LxAt w0 w v []) (a13 a14 a15 a16 : Option Addr) (c13 c14 c15 c16 : Nat) : Calls Tryz.prog 14 #[v, .agg (pkC 1 2 fM (.slice a13 fM.nx.length c13) (.slice a14 fM.sg.length c14) (.slice a15 fM.cg.length c15) (.slice a16 fM.ln.length c16)).toArray] w fun e w' => e = .returned (.int .i64 1) ∧ Below w0.heap.size w0 w' := by
  obtain ⟨N, P, h0, h1, h2⟩ := h
  refine (ninject_far h1 (by decide) 1 2 fM (by decide) a13 a14 a15 a16 c13 c14 c15 c16).mono ?_
  rintro e w' ⟨he, P', _, hO, _⟩
  exact ⟨he, h2.trans (hO.below h2.size (fun k hk => Nat.le_trans h0 (h1.low k hk)))⟩
set_option maxRecDepth 100000 in
set_option maxHeartbeats 6400000 in
theorem nlives_any (w : World) : Calls Tryz.prog 8 #[] w fun e w' => e = .returned (.bool true) ∧ Below w.heap.size w w' := by
  obtain ⟨wa, ha, hb, hx⟩ := one_newL [.int .i64 3] 3 w
  have HA := hid ha
  have H0 := hid (And.intro hb (ints_3 hx))
  clear ha hb hx
  go_enter Tryz.func8, Tryz.ntmps8
  go_wp2_with (first
    | (have := H5; go_at_call 14; go_must (rw [HP.out]; refine (lx_inject wa _ _ H5.out.1 a13 a14 a15 a16 c13 c14 c15 c16).mono ?_; rintro e w6 ⟨rfl, hb⟩; have H6 := hid hb; clear hb))
    | (have := H5; refine wl_loadB rfl 50 _ rfl w3.heap.size 0 rfl (pkC 1 2 fM (.slice a13 fM.nx.length c13) (.slice a14 fM.sg.length c14) (.slice a15 fM.cg.length c15) (.slice a16 fM.ln.length c16)) 50 H5.out.2.2 _ Tryz.underlying50 rfl (by kernel_rfl) Ap HP.out rfl ?_)
    | (have := H4; go_at_call 24; go_must (refine (lx_len wa _ _ H4.out.1).mono ?_; rintro e w5 ⟨rfl, hb, h5⟩; have H5 : Hid (LxAt wa w5 _ [] ∧ MsL (fun _ => True) w5 fM (.slice a13 fM.nx.length c13) (.slice a14 fM.sg.length c14) (.slice a15 fM.cg.length c15) (.slice a16 fM.ln.length c16) ∧ BxAt w5 w3.heap.size (pkC 1 2 fM (.slice a13 fM.nx.length c13) (.slice a14 fM.sg.length c14) (.slice a15 fM.cg.length c15) (.slice a16 fM.ln.length c16)) 50) := hid ⟨h5, H4.out.2.1.under hb, H4.out.2.2.keep hb⟩; clear hb h5))
    | (have := H3; refine wl_store_blk rfl 50 _ _ rfl w3.heap.size 0 rfl _ HP.out zPk 50 (heap_alloc_last w3 _) (by simp [zPk, pkC, msC]) (by kernel_rfl) (by simp [pkC, msC, Value.oneCell']) ?_; go_must (intro w4 Hz; have hb4 : Below w3.heap.size w3 w4 := Hz.out.2.below ((Below.refl _ _).alloc (Nat.le_refl _) _) (Nat.le_refl _); have H4 : Hid (LxAt wa w4 _ [] ∧ MsL (fun _ => True) w4 fM (.slice a13 fM.nx.length c13) (.slice a14 fM.sg.length c14) (.slice a15 fM.cg.length c15) (.slice a16 fM.ln.length c16) ∧ BxAt w4 w3.heap.size (pkC 1 2 fM (.slice a13 fM.nx.length c13) (.slice a14 fM.sg.length c14) (.slice a15 fM.cg.length c15) (.slice a16 fM.ln.length c16)) 50) := hid ⟨H3.out.2.same hb4, H3.out.1.under hb4, Hz.out.1⟩; have yt := H4.out.2.2.cell 1 _ rfl; clear Hz hb4))
    | (have := H2; go_at_call 17; go_must (refine (lx_take wa _ _ H2.out).mono ?_; rintro e w3 ⟨a13, c13, a14, c14, a15, c15, a16, c16, rfl, hm, h3⟩; have H3 := hid (And.intro hm h3); clear hm h3; obtain ⟨Ap, eP⟩ : ∃ Ap, Ap = Value.agg (pkC 1 2 fM (.slice a13 fM.nx.length c13) (.slice a14 fM.sg.length c14) (.slice a15 fM.cg.length c15) (.slice a16 fM.ln.length c16)).toArray := ⟨_, rfl⟩; rw [← eP]; have HP := hid eP; clear eP))
    | (have := H1; go_at_call 12; go_must (refine (lx_send wa w1 _ _ H1.out ((Below.refl _ _).alloc (Nat.le_refl _) _) (heap_alloc_last w1 _)).mono ?_; rintro e w2 ⟨rfl, h2⟩; have H2 := hid h2; clear h2))
    | (go_at_call 9; go_must (rw [HA.out]; refine (lx_new wa _ H0.out.2).mono ?_; rintro e w1 ⟨g, rfl, h1⟩; have H1 := hid h1; clear h1)))
  go_ret
  exact ⟨rfl, H0.out.1.trans (H6.out.mono H0.out.1.size)⟩
end Go.Proofs.YthjgnfeadagmeaaGreat
