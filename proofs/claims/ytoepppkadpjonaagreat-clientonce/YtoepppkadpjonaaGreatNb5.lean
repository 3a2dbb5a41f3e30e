/- Texts laid together: WiA WiB OpA WiC RlC DsC DsS StA CgA HlA. -/
import Derived.Test.YtoepppkadpjonaaGreatNb4
import Derived.Test.YtoepppkadpjonaaGreatNb1
import Derived.Test.YtoepppkadpjonaaGreatRows
import Derived.ProofKit
import Derived.OpenShut
import Derived.ShutString
import Derived.ChangeOld
import Derived.Deep.Slices
import Derived.Deep.MidRow
import Derived.BigQuiet
import Derived.OrdersHeld
namespace Go.Proofs.YtoepppkadpjonaaGreat
section
open Go.RowKit
abbrev Ps (α : Type) := ByteArray → Option (α × ByteArray)
structure Inv {α : Type} (p : Ps α) (f : α → List UInt8) (V : α → Prop) : Prop where
 good : ∀ (s : ByteArray) (x : α) (rest : List UInt8), V x → s.data.toList = f x ++ rest → ∃ s', p s = some (x, s') ∧ s'.data.toList = rest
 back : ∀ (s : ByteArray) (x : α) (s' : ByteArray), p s = some (x, s') → V x ∧ s.data.toList = f x ++ s'.data.toList
def pN (n : Nat) : Ps Nat := fun s => if rB s false n = false then some (rN s false n, rS s false n) else none
theorem inv_N (n : Nat) : Inv (pN n) (be n) (fun k => k < 256 ^ n) where
 good s k rest hk h := by
   obtain ⟨h1, h2, h3⟩ := rd_good s n k rest h hk
   exact ⟨rS s false n, by rw [pN, if_pos h3, h1], h2⟩
 back s k s' h := by
   unfold pN at h
   split at h
   · rename_i h3
     cases h
     exact ⟨rN_lt s false n, (rd_back s false n h3).2⟩
   · cases h
def pT : Ps ByteArray := fun s => if tB s false = false then some (tT s false, tS s false) else none
def txL (x : ByteArray) : List UInt8 := be 2 x.size ++ x.data.toList
theorem inv_T : Inv pT txL (fun x => x.size ≤ 65535) where
 good s x rest hx h := by
   rw [txL, List.append_assoc] at h
   obtain ⟨h1, h2, h3⟩ := tx_good s x rest h hx
   exact ⟨tS s false, by rw [pT, if_pos h3, h1], h2⟩
 back s x s' h := by
   unfold pT at h
   split at h
   · rename_i h3
     cases h
     obtain ⟨_, h4, h5⟩ := tx_back s false h3
     exact ⟨h5, by rw [txL, List.append_assoc]; exact h4⟩
   · cases h
def pSeq {α β : Type} (p : Ps α) (q : Ps β) : Ps (α × β) := fun s => (p s).bind fun a => (q a.2).map fun b => ((a.1, b.1), b.2)
theorem Inv.seq {α β : Type} {p : Ps α} {q : Ps β} {f : α → List UInt8} {g : β → List UInt8} {V : α → Prop} {W : β → Prop} (hp : Inv p f V) (hq : Inv q g W) : Inv (pSeq p q) (fun z => f z.1 ++ g z.2) (fun z => V z.1 ∧ W z.2) where
 good s z rest hz h := by
   rw [List.append_assoc] at h
   obtain ⟨s1, h1, h2⟩ := hp.good s z.1 _ hz.1 h
   obtain ⟨s2, h3, h4⟩ := hq.good s1 z.2 rest hz.2 h2
   exact ⟨s2, by rw [pSeq, h1]; simp [h3], h4⟩
 back s z s' h := by
   unfold pSeq at h
   cases h1 : p s with
   | none => rw [h1] at h; cases h
   | some a =>
     rw [h1] at h
     simp only [Option.bind_some] at h
     cases h2 : q a.2 with
     | none => rw [h2] at h; cases h
     | some b =>
       rw [h2] at h
       simp only [Option.map_some, Option.some.injEq, Prod.mk.injEq] at h
       obtain ⟨rfl, rfl⟩ := h
       obtain ⟨v1, e1⟩ := hp.back s a.1 a.2 h1
       obtain ⟨v2, e2⟩ := hq.back a.2 b.1 b.2 h2
       exact ⟨⟨v1, v2⟩, by rw [e1, e2, List.append_assoc]⟩
def pMap {α β : Type} (d : α → Option β) (p : Ps α) : Ps β := fun s => (p s).bind fun a => (d a.1).map fun y => (y, a.2)
theorem Inv.map {α β : Type} {p : Ps α} {f : α → List UInt8} {V : α → Prop} (hp : Inv p f V) (d : α → Option β) (e : β → α) (W : β → Prop) (h1 : ∀ y, W y → V (e y) ∧ d (e y) = some y) (h2 : ∀ x y, V x → d x = some y → W y ∧ e y = x) : Inv (pMap d p) (fun y => f (e y)) W where
 good s y rest hy h := by
   obtain ⟨v, hd⟩ := h1 y hy
   obtain ⟨s1, h3, h4⟩ := hp.good s (e y) rest v h
   exact ⟨s1, by rw [pMap, h3]; simp [hd], h4⟩
 back s y s' h := by
   unfold pMap at h
   cases h3 : p s with
   | none => rw [h3] at h; cases h
   | some a =>
     rw [h3] at h
     simp only [Option.bind_some] at h
     cases h4 : d a.1 with
     | none => rw [h4] at h; cases h
     | some z =>
       rw [h4] at h
       simp only [Option.map_some, Option.some.injEq, Prod.mk.injEq] at h
       obtain ⟨rfl, rfl⟩ := h
       obtain ⟨v1, e1⟩ := hp.back s a.1 a.2 h3
       obtain ⟨w1, e2⟩ := h2 a.1 z v1 h4
       exact ⟨w1, by rw [e1, e2]⟩
def pMany {α : Type} (p : Ps α) : Nat → ByteArray → Option (List α × ByteArray)
 | 0, s => some ([], s)
 | k + 1, s => (pMany p k s).bind fun a => (p a.2).map fun b => (a.1 ++ [b.1], b.2)
theorem Inv.many {α : Type} {p : Ps α} {f : α → List UInt8} {V : α → Prop} (hp : Inv p f V) : ∀ k, Inv (pMany p k) (fun l => l.flatMap f) (fun l => l.length = k ∧ ∀ x, x ∈ l → V x)
 | 0 => ⟨fun s l rest hl h => by
     obtain rfl := List.eq_nil_of_length_eq_zero hl.1
     exact ⟨s, rfl, by simpa using h⟩, fun s l s' h => by
     cases h
     exact ⟨⟨rfl, fun x hx => by cases hx⟩, rfl⟩⟩
 | k + 1 => ⟨fun s l rest hl h => by
     obtain ⟨l', x, rfl⟩ : ∃ l' x, l = l' ++ [x] := ⟨l.dropLast, l.getLast (by intro e; rw [e] at hl; cases hl.1), (List.dropLast_concat_getLast _).symm⟩
     have hl' : l'.length = k := by have := hl.1; rw [List.length_append] at this; simpa using this
     rw [List.flatMap_append, List.append_assoc] at h
     obtain ⟨s1, h1, h2⟩ := (Inv.many hp k).good s l' _ ⟨hl', fun y hy => hl.2 y (List.mem_append.2 (.inl hy))⟩ h
     rw [show [x].flatMap f = f x by simp] at h2
     obtain ⟨s2, h3, h4⟩ := hp.good s1 x rest (hl.2 x (by simp)) h2
     exact ⟨s2, by rw [pMany, h1]; simp [h3], h4⟩, fun s l s' h => by
     rw [pMany] at h
     cases h1 : pMany p k s with
     | none => rw [h1] at h; cases h
     | some a =>
       rw [h1] at h
       simp only [Option.bind_some] at h
       cases h2 : p a.2 with
       | none => rw [h2] at h; cases h
       | some b =>
         rw [h2] at h
         simp only [Option.map_some, Option.some.injEq, Prod.mk.injEq] at h
         obtain ⟨rfl, rfl⟩ := h
         obtain ⟨v1, e1⟩ := (Inv.many hp k).back s a.1 a.2 h1
         obtain ⟨v2, e2⟩ := hp.back a.2 b.1 b.2 h2
         refine ⟨⟨by rw [List.length_append, v1.1]; rfl, fun x hx => ?_⟩, by rw [e1, e2, List.flatMap_append, List.append_assoc]; simp⟩
         rcases List.mem_append.1 hx with hx | hx
         · exact v1.2 x hx
         · rw [List.mem_singleton.1 hx]; exact v2⟩
def pList {α : Type} (p : Ps α) : Ps (List α) := fun s => (pN 1 s).bind fun a => pMany p a.1 a.2
def lsL {α : Type} (f : α → List UInt8) (l : List α) : List UInt8 := be 1 l.length ++ l.flatMap f
theorem Inv.list {α : Type} {p : Ps α} {f : α → List UInt8} {V : α → Prop} (hp : Inv p f V) : Inv (pList p) (lsL f) (fun l => l.length < 256 ∧ ∀ x, x ∈ l → V x) where
 good s l rest hl h := by
   rw [lsL, List.append_assoc] at h
   obtain ⟨s1, h1, h2⟩ := (inv_N 1).good s l.length _ (by simpa using hl.1) h
   obtain ⟨s2, h3, h4⟩ := (hp.many l.length).good s1 l rest ⟨rfl, hl.2⟩ h2
   exact ⟨s2, by rw [pList, h1]; exact h3, h4⟩
 back s l s' h := by
   unfold pList at h
   cases h1 : pN 1 s with
   | none => rw [h1] at h; cases h
   | some a =>
     rw [h1] at h
     simp only [Option.bind_some] at h
     obtain ⟨v1, e1⟩ := (inv_N 1).back s a.1 a.2 h1
     obtain ⟨v2, e2⟩ := (hp.many a.1).back a.2 l s' h
     exact ⟨⟨by rw [v2.1]; simpa using v1, v2.2⟩, by rw [e1, e2, lsL, v2.1, List.append_assoc]⟩
def pI (n : Nat) : Ps Int := pMap (fun k : Nat => some (k : Int)) (pN n)
theorem inv_I (n : Nat) : Inv (pI n) (fun z => be n z.toNat) (fun z => 0 ≤ z ∧ z.toNat < 256 ^ n) :=
 (inv_N n).map (fun k : Nat => some (k : Int)) Int.toNat (fun z => 0 ≤ z ∧ z.toNat < 256 ^ n) (fun y hy => ⟨hy.2, by rw [Int.toNat_of_nonneg hy.1]⟩) (fun x y hx hd => by cases hd; exact ⟨⟨Int.natCast_nonneg _, by simpa using hx⟩, by simp⟩)
abbrev Sg := Int × ByteArray
def sgV (p : Sg) : Prop := (0 ≤ p.1 ∧ p.1.toNat < 256 ^ 1) ∧ p.2.size ≤ 65535
def sigL (p : Sg) : List UInt8 := be 1 p.1.toNat ++ txL p.2
def pSg : Ps Sg := pSeq (pI 1) pT
theorem inv_sg : Inv pSg sigL sgV := (inv_I 1).seq inv_T
def pSgs : Ps (List Sg) := pList pSg
def sgsV (l : List Sg) : Prop := l.length < 256 ∧ ∀ x, x ∈ l → sgV x
def sgsL (l : List Sg) : List UInt8 := lsL sigL l
theorem inv_sgs : Inv pSgs sgsL sgsV := inv_sg.list
def rqV (r : Rq) : Prop := (rightB r = true ∨ r = zeroQ) ∧ canW r.b = r.b ∧ r.b < 18446744073709551616
def pRq : Ps Rq := pMap (fun t => if rdE t = 0 then some (rdR t) else none) pT
def rqX (r : Rq) : List UInt8 := txL (rqT r)
theorem zero_text : rqT zeroQ = ⟨#[0]⟩ := by decide
theorem rd_right {r : Rq} (h : rightB r = true) (hc : canW r.b = r.b) (hb : r.b < 18446744073709551616) : rdE (rqT r) = 0 ∧ rdR (rqT r) = r := by
 obtain ⟨h1, h2, h3⟩ := read_back h hb
 refine ⟨by rw [rdE, h3, h1]; rfl, ?_⟩
 rw [rdR, h3, h1]
 show rdq (rqT r) = r
 rw [h2, hc]
theorem rq_size {r : Rq} (h : rightB r = true) : (rqT r).size ≤ 34 := by
 have hk := (right_fields h).2.2.2.1
 rw [rqT, right_null h, h]
 show (ByteArray.mk (rqL r).toArray).size ≤ 34
 have : (ByteArray.mk (rqL r).toArray).size = (rqL r).length := by simp [ByteArray.size]
 rw [this, rqL_len]
 omega
theorem inv_rq : Inv pRq rqX rqV :=
 inv_T.map (fun t => if rdE t = 0 then some (rdR t) else none) rqT rqV (fun r hr => by
   rcases hr.1 with h | h
   · obtain ⟨h1, h2⟩ := rd_right h hr.2.1 hr.2.2
     exact ⟨by have := rq_size h; omega, by rw [if_pos h1, h2]⟩
   · subst h
     rw [zero_text]
     exact ⟨by decide, by rw [if_pos (by decide)]; rfl⟩) (fun t r ht hd => by
   split at hd
   · rename_i h0
     cases hd
     unfold rdE at h0
     cases hn : isNul t with
     | true =>
       have ht0 : t = ⟨#[0]⟩ := by
         have := of_decide_eq_true hn
         apply ByteArray.ext
         exact Array.ext' this
       rw [show rdR t = zeroQ by rw [rdR, hn]; rfl]
       exact ⟨⟨.inr rfl, by decide, by decide⟩, by rw [zero_text, ht0]⟩
     | false =>
       rw [hn] at h0
       cases ho : okq t with
       | false => rw [ho] at h0; cases h0
       | true =>
         obtain ⟨h1, h2, h3⟩ := told_back ho
         rw [show rdR t = rdq t by rw [rdR, hn, ho]; rfl]
         refine ⟨⟨.inl h1, ?_, h3⟩, h2⟩
         simp only [okq, Bool.and_eq_true] at ho
         obtain ⟨f1, f2⟩ := fromW_ok ho.1.1.2
         show canW (fromW (rdBits t)) = fromW (rdBits t)
         rw [f1, f2]
   · cases hd)
def rsV (x : Int × Nat) : Prop := rsB x.1 = true ∧ canW x.2 = x.2 ∧ x.2 < 18446744073709551616
def pRs : Ps (Int × Nat) := pMap (fun t => if rsR t = 0 then some (rsC t, rsF t) else none) pT
def rsX (x : Int × Nat) : List UInt8 := txL (rsT x.1 x.2)
theorem rs_sz {c : Int} {f : Nat} (h : rsB c = true) : (rsT c f).size = 9 := by
 rw [rsT, if_pos h]
 have : (ByteArray.mk (rsL c f).toArray).size = (rsL c f).length := by simp [ByteArray.size]
 rw [this, rsL, List.length_append, be_len, be_len]
theorem inv_rs : Inv pRs rsX rsV :=
 inv_T.map (fun t => if rsR t = 0 then some (rsC t, rsF t) else none) (fun x : Int × Nat => rsT x.1 x.2) rsV (fun x hx => by
   obtain ⟨h1, h2, h3⟩ := rs_back hx.1 hx.2.2
   exact ⟨by rw [rs_sz hx.1]; decide, by rw [if_pos ((show rsR (rsT x.1 x.2) = 0 by rw [rsR, h1]; rfl)), h2, h3, hx.2.1]⟩) (fun t x ht hd => by
   split at hd
   · rename_i h0
     cases hd
     cases ho : okRs t with
     | false => rw [rsR, ho] at h0; cases h0
     | true =>
       obtain ⟨h1, h2, h3⟩ := rs_told ho
       refine ⟨⟨h1, ?_, h3⟩, h2⟩
       have hk := ho
       simp only [okRs, Bool.and_eq_true] at hk
       obtain ⟨f1, f2⟩ := fromW_ok hk.1.1
       show canW (rsF t) = rsF t
       rw [rsF, if_pos ho, f1, f2]
   · cases hd)
def cfV (x : Int × List Int) : Prop := rightC x.1 x.2 = true
def pCf : Ps (Int × List Int) := pMap (fun t => if readE t = 0 then some (readZ t, readM t) else none) pT
def cfX (x : Int × List Int) : List UInt8 := txL (textC x.1 x.2)
theorem cf_sz {e : Int} {l : List Int} (h : rightC e l = true) : (textC e l).size ≤ 14 := by
 have := mem_len (rightC_ep h).2
 rw [textC, if_pos h]
 have hs : (ByteArray.mk (confB e l).toArray).size = (confB e l).length := by simp [ByteArray.size]
 rw [hs, confB, List.length_append, List.length_append, List.length_append, be_len, be_len, be_len, memBytes_len]
 omega
theorem inv_cf : Inv pCf cfX cfV :=
 inv_T.map (fun t => if readE t = 0 then some (readZ t, readM t) else none) (fun x : Int × List Int => textC x.1 x.2) cfV (fun x hx => by
   obtain ⟨h1, h2, h3⟩ := read_text x.1 x.2 hx
   exact ⟨by have := cf_sz hx; omega, by rw [if_pos ((show readE (textC x.1 x.2) = 0 by rw [readE, h1]; rfl)), h2, h3]⟩) (fun t x ht hd => by
   split at hd
   · rename_i h0
     cases hd
     cases ho : readB t with
     | false => rw [readE, ho] at h0; cases h0
     | true => exact text_read t ho
   · cases hd)
abbrev Ct := Int × Int × Rq × List Sg
abbrev Cg := Int × Int × List Ct × Sg
abbrev Ln := (Int × List Int) × List Sg
def iV (n : Nat) (z : Int) : Prop := 0 ≤ z ∧ z.toNat < 256 ^ n
def ctV (c : Ct) : Prop := iV 1 c.1 ∧ iV 2 c.2.1 ∧ rqV c.2.2.1 ∧ sgsV c.2.2.2
def ctL (c : Ct) : List UInt8 := be 1 c.1.toNat ++ (be 2 c.2.1.toNat ++ (rqX c.2.2.1 ++ sgsL c.2.2.2))
def pCt : Ps Ct := pSeq (pI 1) (pSeq (pI 2) (pSeq pRq pSgs))
theorem inv_ct : Inv pCt ctL ctV := (inv_I 1).seq ((inv_I 2).seq (inv_rq.seq inv_sgs))
def cgV (c : Cg) : Prop := iV 1 c.1 ∧ iV 1 c.2.1 ∧ (c.2.2.1.length < 256 ∧ ∀ x, x ∈ c.2.2.1 → ctV x) ∧ sgV c.2.2.2
def cgL (c : Cg) : List UInt8 := be 1 c.1.toNat ++ (be 1 c.2.1.toNat ++ (lsL ctL c.2.2.1 ++ sigL c.2.2.2))
def pCg : Ps Cg := pSeq (pI 1) (pSeq (pI 1) (pSeq (pList pCt) pSg))
theorem inv_cg : Inv pCg cgL cgV := (inv_I 1).seq ((inv_I 1).seq (inv_ct.list.seq inv_sg))
def lnV (c : Ln) : Prop := cfV c.1 ∧ sgsV c.2
def lnL (c : Ln) : List UInt8 := cfX c.1 ++ sgsL c.2
def pLn : Ps Ln := pSeq pCf pSgs
theorem inv_ln : Inv pLn lnL lnV := inv_cf.seq inv_sgs
def oneL (z : Int) : List UInt8 := be 1 z.toNat
def pMem : Ps (List Int) := pList (pI 1)
theorem inv_mem : Inv pMem (lsL oneL) (fun l => l.length < 256 ∧ ∀ x, x ∈ l → iV 1 x) := (inv_I 1).list
structure Ms where
 k : Int
 ep : Int
 v : Int
 sl : Int
 rq : Rq
 rs : Int × Nat
 tx : ByteArray
 nx : List Int
 sg : List Sg
 cg : List Cg
 ln : List Ln
abbrev MsT := Int × Int × Int × Int × Rq × (Int × Nat) × ByteArray × List Int × List Sg × List Cg × List Ln
def Ms.t (m : Ms) : MsT := (m.k, m.ep, m.v, m.sl, m.rq, m.rs, m.tx, m.nx, m.sg, m.cg, m.ln)
def MsT.m (z : MsT) : Ms := ⟨z.1, z.2.1, z.2.2.1, z.2.2.2.1, z.2.2.2.2.1, z.2.2.2.2.2.1, z.2.2.2.2.2.2.1, z.2.2.2.2.2.2.2.1, z.2.2.2.2.2.2.2.2.1, z.2.2.2.2.2.2.2.2.2.1, z.2.2.2.2.2.2.2.2.2.2⟩
def msL (m : Ms) : List UInt8 := be 1 m.k.toNat ++ (be 2 m.ep.toNat ++ (be 1 m.v.toNat ++ (be 2 m.sl.toNat ++ (rqX m.rq ++ (rsX m.rs ++ (txL m.tx ++ (lsL oneL m.nx ++ (sgsL m.sg ++ (lsL cgL m.cg ++ lsL lnL m.ln)))))))))
structure MsV (m : Ms) : Prop where
 k : iV 1 m.k
 ep : iV 2 m.ep
 v : iV 1 m.v
 sl : iV 2 m.sl
 rq : rqV m.rq
 rs : rsV m.rs
 tx : m.tx.size ≤ 65535
 nx : m.nx.length < 256 ∧ ∀ x, x ∈ m.nx → iV 1 x
 sg : sgsV m.sg
 cg : m.cg.length < 256 ∧ ∀ x, x ∈ m.cg → cgV x
 ln : m.ln.length < 256 ∧ ∀ x, x ∈ m.ln → lnV x
def pMs : Ps Ms := pMap (fun z => some (MsT.m z)) (pSeq (pI 1) (pSeq (pI 2) (pSeq (pI 1) (pSeq (pI 2) (pSeq pRq (pSeq pRs (pSeq pT (pSeq pMem (pSeq pSgs (pSeq (pList pCg) (pList pLn)))))))))))
theorem inv_ms : Inv pMs msL MsV :=
 ((inv_I 1).seq ((inv_I 2).seq ((inv_I 1).seq ((inv_I 2).seq (inv_rq.seq (inv_rs.seq (inv_T.seq (inv_mem.seq (inv_sgs.seq (inv_cg.list.seq inv_ln.list)))))))))).map (fun z => some (MsT.m z)) Ms.t MsV
   (fun m h => ⟨⟨h.k, h.ep, h.v, h.sl, h.rq, h.rs, h.tx, h.nx, h.sg, h.cg, h.ln⟩, rfl⟩) (fun z m hz hd => by
     cases hd
     obtain ⟨h1, h2, h3, h4, h5, h6, h7, h8, h9, h10, h11⟩ := hz
     exact ⟨⟨h1, h2, h3, h4, h5, h6, h7, h8, h9, h10, h11⟩, rfl⟩)
end
section
open Go.RowKit
def allTo (P : Nat → Bool) : Nat → Bool
 | 0 => true
 | n + 1 => allTo P n && P n
theorem allTo_at {P : Nat → Bool} : ∀ {n : Nat}, allTo P n = true → ∀ i, i < n → P i = true
 | 0, _, i, hi => by omega
 | n + 1, h, i, hi => by
   rw [allTo, Bool.and_eq_true] at h
   by_cases e : i = n
   · rw [e]; exact h.2
   · exact allTo_at h.1 i (by omega)
theorem allTo_no {P : Nat → Bool} {n : Nat} (i : Nat) (hi : i < n) (h : P i = false) : allTo P n = false := by
 cases hn : allTo P n with
 | false => rfl
 | true => rw [allTo_at hn i hi] at h; cases h
theorem allTo_congr {P Q : Nat → Bool} : ∀ {n : Nat}, (∀ i, i < n → P i = Q i) → allTo P n = allTo Q n
 | 0, _ => rfl
 | n + 1, h => by rw [allTo, allTo, allTo_congr (fun i hi => h i (by omega)), h n (by omega)]
def eB : ByteArray := ⟨#[]⟩
def sg0 : Sg := (0, eB)
def ct0 : Ct := (0, 0, zeroQ, [])
def cg0 : Cg := (0, 0, [], sg0)
def ln0 : Ln := ((0, []), [])
def inB (n a b : Int) : Bool := decide (a ≤ n) && decide (n ≤ b)
def sigB (p : Sg) : Bool := inB p.1 0 199
def sigsB (l : List Sg) : Bool := decide (l.length ≤ 16) && allTo (fun i => sigB (l.getD i sg0)) l.length
def ofB (e s : Int) : Bool := decide (4 * e < s) && decide (s ≤ 4 * (e + 1))
def askB (r : Rq) : Bool := rightB r || nullB r
def ctB (e : Int) (c : Ct) : Bool := (inB c.1 0 15 && ofB e c.2.1) && (askB c.2.2.1 && sigsB c.2.2.2)
def ctAt (e : Int) (l : List Ct) (i : Nat) : Bool := ctB e (l.getD i ct0) && (decide (i = 0) || decide ((l.getD (i - 1) ct0).2.1 < (l.getD i ct0).2.1))
def ctsB (e : Int) (l : List Ct) : Bool := decide (l.length ≤ 4) && allTo (ctAt e l) l.length
def cgB (e : Int) (c : Cg) : Bool := (inB c.1 0 15 && inB c.2.1 1 15) && (ctsB e c.2.2.1 && sigB c.2.2.2)
def cgAt (e v : Int) (l : List Cg) (i : Nat) : Bool := (decide ((l.getD i cg0).2.1 = v) && cgB e (l.getD i cg0)) && (decide (i = 0) || decide ((l.getD (i - 1) cg0).1 < (l.getD i cg0).1))
def cgsB (e v : Int) (l : List Cg) (most : Nat) : Bool := (decide (1 ≤ l.length) && decide (l.length ≤ most)) && allTo (cgAt e v l) l.length
def lnAt (l : List Ln) (i : Nat) : Bool := (decide ((l.getD i ln0).1.1 = (i : Int) + 1) && rightC (l.getD i ln0).1.1 (l.getD i ln0).1.2) && sigsB (l.getD i ln0).2
def lnsB (l : List Ln) : Bool := allTo (lnAt l) l.length
structure Only where
 v : Bool := false
 s : Bool := false
 r : Bool := false
 x : Bool := false
 t : Bool := false
 n : Bool := false
 g : Bool := false
 c : Bool := false
 l : Bool := false
def onlyB (m : Ms) (o : Only) : Bool := (o.v || decide (m.v = 0)) && ((o.s || decide (m.sl = 0)) && ((o.r || nullB m.rq) && ((o.x || (decide (m.rs.1 = 0) && decide (canW m.rs.2 = 0))) && ((o.t || decide (m.tx.size = 0)) && ((o.n || decide (m.nx.length = 0)) && ((o.g || decide (m.sg.length = 0)) && ((o.c || decide (m.cg.length = 0)) && (o.l || decide (m.ln.length = 0)))))))))
def placeB (m : Ms) : Bool := inB m.v 0 15 && ofB m.ep m.sl
def oneB (l : List Sg) (k : Nat) : Bool := decide (l.length = k) && sigsB l
def kindB (m : Ms) : Bool :=
 if m.k = 1 then onlyB m { r := true, g := true } && (decide (m.ep = 0) && (rightB m.rq && oneB m.sg 1))
 else if m.k = 2 then onlyB m { v := true, s := true, r := true, g := true } && (placeB m && (askB m.rq && oneB m.sg (if nullB m.rq then 0 else 1)))
 else if m.k = 3 then onlyB m { v := true, s := true, r := true, g := true } && (placeB m && (askB m.rq && oneB m.sg 1))
 else if m.k = 4 then onlyB m { v := true, s := true, r := true } && (placeB m && askB m.rq)
 else if m.k = 5 then onlyB m { s := true, t := true, n := true, g := true } && (decide (m.sl = 4 * (m.ep + 1)) && (!decide (m.tx.size = 0) && (memB m.nx && oneB m.sg 2)))
 else if m.k = 6 then onlyB m { v := true, c := true } && cgsB m.ep m.v m.cg 1
 else if m.k = 7 then onlyB m { v := true, c := true } && cgsB m.ep m.v m.cg 10
 else if m.k = 8 then onlyB m { r := true, x := true } && (rightB m.rq && rsB m.rs.1)
 else if m.k = 9 then onlyB m {}
 else if m.k = 10 then onlyB m { s := true, t := true, g := true, l := true } && (decide (1 ≤ m.ep) && (decide (m.sl = 4 * m.ep) && (!decide (m.tx.size = 0) && ((decide ((m.ln.length : Int) = m.ep) && lnsB m.ln) && sigsB m.sg))))
 else false
def fitB (m : Ms) : Bool := inB m.k 1 10 && (inB m.ep 0 60 && kindB m)
def normR (r : Rq) : Rq := { r with b := canW r.b }
def nCt (c : Ct) : Ct := (c.1, c.2.1, normR c.2.2.1, c.2.2.2)
def nCg (c : Cg) : Cg := (c.1, c.2.1, c.2.2.1.map nCt, c.2.2.2)
def normM (m : Ms) : Ms := { m with rq := normR m.rq, rs := (m.rs.1, canW m.rs.2), cg := m.cg.map nCg }
theorem norm_whole (r : Rq) : wholeB (normR r) r = true := (wholeB_iff _ _).2 ⟨rfl, rfl, rfl, rfl, rfl, canW_idem r.b⟩
theorem norm_alike (r : Rq) : nullB (normR r) = nullB r ∧ rightB (normR r) = rightB r ∧ rqT (normR r) = rqT r := by
 obtain ⟨h1, h2, h3, _⟩ := whole_alike (norm_whole r)
 exact ⟨h1, h2, h3⟩
theorem rsT_norm (c : Int) (f : Nat) : rsT c (canW f) = rsT c f := by rw [rsT, rsT, rsL, rsL, canW_idem]
theorem ctL_norm (c : Ct) : ctL (nCt c) = ctL c := by
 show be 1 c.1.toNat ++ (be 2 c.2.1.toNat ++ (txL (rqT (normR c.2.2.1)) ++ sgsL c.2.2.2)) = _
 rw [(norm_alike c.2.2.1).2.2]
 rfl
theorem flat_norm {α : Type} {f : α → List UInt8} {g : α → α} (h : ∀ x, f (g x) = f x) : ∀ l : List α, (l.map g).flatMap f = l.flatMap f
 | [] => rfl
 | x :: l => by
   rw [List.map_cons, List.flatMap_cons, List.flatMap_cons, h x, flat_norm h l]
theorem ls_norm {α : Type} {f : α → List UInt8} {g : α → α} (h : ∀ x, f (g x) = f x) (l : List α) : lsL f (l.map g) = lsL f l := by rw [lsL, lsL, List.length_map, flat_norm h]
theorem cgL_norm (c : Cg) : cgL (nCg c) = cgL c := by
 show be 1 c.1.toNat ++ (be 1 c.2.1.toNat ++ (lsL ctL (c.2.2.1.map nCt) ++ sigL c.2.2.2)) = _
 rw [ls_norm ctL_norm]
 rfl
theorem msL_norm (m : Ms) : msL (normM m) = msL m := by
 show be 1 m.k.toNat ++ (be 2 m.ep.toNat ++ (be 1 m.v.toNat ++ (be 2 m.sl.toNat ++ (txL (rqT (normR m.rq)) ++ (txL (rsT m.rs.1 (canW m.rs.2)) ++ (txL m.tx ++ (lsL oneL m.nx ++ (sgsL m.sg ++ (lsL cgL (m.cg.map nCg) ++ lsL lnL m.ln))))))))) = _
 rw [(norm_alike m.rq).2.2, rsT_norm, ls_norm cgL_norm]
 rfl
structure MsR (m : Ms) : Prop where
 rq : m.rq.b < 18446744073709551616
 rs : m.rs.2 < 18446744073709551616
 cg : ∀ c, c ∈ m.cg → ∀ x, x ∈ c.2.2.1 → x.2.2.1.b < 18446744073709551616
theorem can_lt {b : Nat} (h : b < 18446744073709551616) : canW b < 18446744073709551616 := by
 unfold canW
 cases nanW b with
 | true => simp
 | false => simpa using h
theorem null_zero {r : Rq} (h : nullB r = true) : normR r = zeroQ := by
 obtain ⟨h1, h2, h3, h4, h5, h6⟩ := null_fields h
 obtain ⟨c, st, k, key, b, id⟩ := r
 simp only at h1 h2 h3 h4 h5 h6
 subst h1 h2 h3 h6
 have hk : key = ⟨#[]⟩ := by
   apply ByteArray.ext
   apply Array.eq_empty_of_size_eq_zero
   exact h4
 subst hk
 show (⟨0, 0, 0, ⟨#[]⟩, canW b, 0⟩ : Rq) = zeroQ
 rw [h5]
 rfl
theorem ask_valid {r : Rq} (h : askB r = true) (hb : r.b < 18446744073709551616) : rqV (normR r) := by
 refine ⟨?_, canW_idem r.b, can_lt hb⟩
 rw [askB, Bool.or_eq_true] at h
 rcases h with h | h
 · exact .inl (by rw [(norm_alike r).2.1]; exact h)
 · exact .inr (null_zero h)
theorem in_valid {z a b : Int} {n : Nat} (h : inB z a b = true) (ha : 0 ≤ a) (hb : b.toNat < 256 ^ n) : iV n z := by
 rw [inB, Bool.and_eq_true, decide_eq_true_eq, decide_eq_true_eq] at h
 exact ⟨by omega, by omega⟩
theorem getD_mem {α : Type} {l : List α} {d : α} {x : α} (h : x ∈ l) : ∃ i, i < l.length ∧ l.getD i d = x := by
 obtain ⟨i, hi, rfl⟩ := List.getElem_of_mem h
 exact ⟨i, hi, by simp [hi]⟩
theorem sgs_valid {l : List Sg} (h : sigsB l = true) (ht : ∀ p, p ∈ l → p.2.size ≤ 65535) : sgsV l := by
 rw [sigsB, Bool.and_eq_true, decide_eq_true_eq] at h
 refine ⟨by omega, fun p hp => ?_⟩
 obtain ⟨i, hi, e⟩ := getD_mem (d := sg0) hp
 have := allTo_at h.2 i hi
 rw [e] at this
 exact ⟨in_valid this (by decide) (by decide), ht p hp⟩
theorem flat_le {α : Type} {f : α → List UInt8} : ∀ {l : List α} {x : α}, x ∈ l → (f x).length ≤ (l.flatMap f).length
 | y :: l, x, h => by
   rw [List.flatMap_cons, List.length_append]
   rcases List.mem_cons.1 h with rfl | h
   · omega
   · have := flat_le (f := f) h
     omega
theorem sgs_short {l : List Sg} {n : Nat} (h : (sgsL l).length ≤ n) : ∀ p, p ∈ l → p.2.size ≤ n := fun p hp => by
 have := flat_le (f := sigL) hp
 rw [sgsL, lsL, List.length_append] at h
 simp only [sigL, txL, List.length_append, be_len, data_len] at this
 omega
theorem ofB_valid {e s : Int} (h : ofB e s = true) (he : inB e 0 60 = true) : iV 2 s := by
 rw [ofB, Bool.and_eq_true, decide_eq_true_eq, decide_eq_true_eq] at h
 rw [inB, Bool.and_eq_true, decide_eq_true_eq, decide_eq_true_eq] at he
 exact ⟨by omega, by omega⟩
theorem ct_valid {e : Int} {c : Ct} (he : inB e 0 60 = true) (h : ctB e c = true) (hb : c.2.2.1.b < 18446744073709551616) (ht : (ctL c).length ≤ 65535) : ctV (nCt c) := by
 simp only [ctB, Bool.and_eq_true] at h
 obtain ⟨⟨h1, h2⟩, h3, h4⟩ := h
 refine ⟨in_valid h1 (by decide) (by decide), ofB_valid h2 he, ask_valid h3 hb, sgs_valid h4 (sgs_short ?_)⟩
 show (sgsL c.2.2.2).length ≤ 65535
 rw [ctL, List.length_append, List.length_append, List.length_append] at ht
 omega
theorem cg_valid {e : Int} {c : Cg} (he : inB e 0 60 = true) (h : cgB e c = true) (hb : ∀ x, x ∈ c.2.2.1 → x.2.2.1.b < 18446744073709551616) (ht : (cgL c).length ≤ 65535) : cgV (nCg c) := by
 simp only [cgB, ctsB, Bool.and_eq_true, decide_eq_true_eq] at h
 obtain ⟨⟨h1, h2⟩, ⟨h3, h4⟩, h5⟩ := h
 rw [cgL, List.length_append, List.length_append, List.length_append, lsL, List.length_append] at ht
 refine ⟨in_valid h1 (by decide) (by decide), in_valid h2 (by decide) (by decide), ⟨by show (c.2.2.1.map nCt).length < 256; rw [List.length_map]; omega, fun x hx => ?_⟩, ⟨in_valid h5 (by decide) (by decide), ?_⟩⟩
 · obtain ⟨y, hy, rfl⟩ := List.mem_map.1 hx
   obtain ⟨i, hi, e2⟩ := getD_mem (d := ct0) hy
   have := allTo_at h4 i hi
   rw [ctAt, Bool.and_eq_true, e2] at this
   have hl := flat_le (f := ctL) hy
   exact ct_valid he this.1 (hb y hy) (by omega)
 · have : (sigL c.2.2.2).length = 1 + (2 + c.2.2.2.2.size) := by simp only [sigL, txL, List.length_append, be_len, data_len]
   show c.2.2.2.2.size ≤ 65535
   omega
theorem ln_valid {l : List Ln} (h : lnsB l = true) (ht : (lsL lnL l).length ≤ 65535) : ∀ x, x ∈ l → lnV x := fun x hx => by
 obtain ⟨i, hi, e⟩ := getD_mem (d := ln0) hx
 have := allTo_at h i hi
 rw [lnAt, e, Bool.and_eq_true, Bool.and_eq_true] at this
 have hl := flat_le (f := lnL) hx
 rw [lsL, List.length_append] at ht
 refine ⟨this.1.2, sgs_valid this.2 (sgs_short ?_)⟩
 rw [lnL, List.length_append] at hl
 omega
structure MsW (m : Ms) : Prop where
 v : m.v = 0 ∨ inB m.v 0 15 = true
 sl : m.sl = 0 ∨ iV 2 m.sl
 rq : askB m.rq = true
 rs : (m.rs.1 = 0 ∧ canW m.rs.2 = 0) ∨ rsB m.rs.1 = true
 nx : m.nx.length = 0 ∨ memB m.nx = true
 sg : m.sg.length = 0 ∨ sigsB m.sg = true
 cg : m.cg.length = 0 ∨ (m.cg.length ≤ 10 ∧ ∀ x, x ∈ m.cg → cgB m.ep x = true)
 ln : m.ln.length = 0 ∨ (m.ln.length ≤ 60 ∧ lnsB m.ln = true)
theorem askB_null {r : Rq} (h : nullB r = true) : askB r = true := by rw [askB, h, Bool.or_true]
theorem askB_right {r : Rq} (h : rightB r = true) : askB r = true := by rw [askB, h, Bool.true_or]
theorem cgs_all {e v : Int} {l : List Cg} {k : Nat} (h : cgsB e v l k = true) (hk : k ≤ 10) : (l.length ≤ 10 ∧ ∀ x, x ∈ l → cgB e x = true) ∧ (l.length = 0 ∨ inB v 0 15 = true) := by
 simp only [cgsB, Bool.and_eq_true, decide_eq_true_eq] at h
 refine ⟨⟨by omega, fun x hx => ?_⟩, ?_⟩
 · obtain ⟨i, hi, e2⟩ := getD_mem (d := cg0) hx
   have := allTo_at h.2 i hi
   rw [cgAt, e2] at this
   simp only [Bool.and_eq_true] at this
   exact this.1.2
 · right
   have := allTo_at h.2 0 (by omega)
   simp only [cgAt, cgB, inB, Bool.and_eq_true, decide_eq_true_eq] at this ⊢
   omega
theorem fit_weak {m : Ms} (he : inB m.ep 0 60 = true) (h : kindB m = true) : MsW m := by
 have he' := he
 simp only [inB, Bool.and_eq_true, decide_eq_true_eq] at he'
 have i2 : ∀ z : Int, 0 ≤ z → z ≤ 244 → iV 2 z := fun z h1 h2 => ⟨h1, by omega⟩
 unfold kindB at h
 split at h
 · simp only [onlyB, Bool.true_or, Bool.false_or, Bool.true_and, Bool.and_eq_true, decide_eq_true_eq, oneB] at h
   obtain ⟨⟨a1, a2, a3, a4, a5, a6, a7⟩, b1, b2, b3, b4⟩ := h
   exact ⟨.inl a1, .inl a2, askB_right b2, .inl a3, .inl a5, .inr b4, .inl a6, .inl a7⟩
 split at h
 · simp only [onlyB, Bool.true_or, Bool.false_or, Bool.true_and, Bool.and_eq_true, decide_eq_true_eq, oneB, placeB] at h
   obtain ⟨⟨a3, a4, a5, a6, a7⟩, ⟨b1, b2⟩, b3, b4, b5⟩ := h
   exact ⟨.inr b1, .inr (ofB_valid b2 he), b3, .inl a3, .inl a5, .inr b5, .inl a6, .inl a7⟩
 split at h
 · simp only [onlyB, Bool.true_or, Bool.false_or, Bool.true_and, Bool.and_eq_true, decide_eq_true_eq, oneB, placeB] at h
   obtain ⟨⟨a3, a4, a5, a6, a7⟩, ⟨b1, b2⟩, b3, b4, b5⟩ := h
   exact ⟨.inr b1, .inr (ofB_valid b2 he), b3, .inl a3, .inl a5, .inr b5, .inl a6, .inl a7⟩
 split at h
 · simp only [onlyB, Bool.true_or, Bool.false_or, Bool.true_and, Bool.and_eq_true, decide_eq_true_eq, placeB] at h
   obtain ⟨⟨a3, a4, a5, a8, a6, a7⟩, ⟨b1, b2⟩, b3⟩ := h
   exact ⟨.inr b1, .inr (ofB_valid b2 he), b3, .inl a3, .inl a5, .inl a8, .inl a6, .inl a7⟩
 split at h
 · simp only [onlyB, Bool.true_or, Bool.false_or, Bool.true_and, Bool.and_eq_true, decide_eq_true_eq, oneB] at h
   obtain ⟨⟨a1, a2, a3, a6, a7⟩, b1, b2, b3, b4, b5⟩ := h
   exact ⟨.inl a1, .inr (i2 _ (by omega) (by omega)), askB_null a2, .inl a3, .inr b3, .inr b5, .inl a6, .inl a7⟩
 split at h
 · simp only [onlyB, Bool.true_or, Bool.false_or, Bool.true_and, Bool.and_eq_true, decide_eq_true_eq] at h
   obtain ⟨⟨a1, a2, a3, a4, a5, a6, a7⟩, b1⟩ := h
   obtain ⟨c1, c2⟩ := cgs_all b1 (by decide)
   exact ⟨c2.elim (fun z => absurd z (by simp only [cgsB, Bool.and_eq_true, decide_eq_true_eq] at b1; omega)) .inr, .inl a1, askB_null a2, .inl a3, .inl a5, .inl a6, .inr c1, .inl a7⟩
 split at h
 · simp only [onlyB, Bool.true_or, Bool.false_or, Bool.true_and, Bool.and_eq_true, decide_eq_true_eq] at h
   obtain ⟨⟨a1, a2, a3, a4, a5, a6, a7⟩, b1⟩ := h
   obtain ⟨c1, c2⟩ := cgs_all b1 (by decide)
   exact ⟨c2.elim (fun z => absurd z (by simp only [cgsB, Bool.and_eq_true, decide_eq_true_eq] at b1; omega)) .inr, .inl a1, askB_null a2, .inl a3, .inl a5, .inl a6, .inr c1, .inl a7⟩
 split at h
 · simp only [onlyB, Bool.true_or, Bool.false_or, Bool.true_and, Bool.and_eq_true, decide_eq_true_eq] at h
   obtain ⟨⟨a1, a2, a4, a5, a8, a6, a7⟩, b1, b2⟩ := h
   exact ⟨.inl a1, .inl a2, askB_right b1, .inr b2, .inl a5, .inl a8, .inl a6, .inl a7⟩
 split at h
 · simp only [onlyB, Bool.false_or, Bool.and_eq_true, decide_eq_true_eq] at h
   obtain ⟨a1, a2, a3, a4, a5, a6, a7, a8, a9⟩ := h
   exact ⟨.inl a1, .inl a2, askB_null a3, .inl a4, .inl a6, .inl a7, .inl a8, .inl a9⟩
 split at h
 · simp only [onlyB, Bool.true_or, Bool.false_or, Bool.true_and, Bool.and_true, Bool.and_eq_true, decide_eq_true_eq] at h
   obtain ⟨⟨a1, a2, a3, a5, a6⟩, b1, b2, b3, ⟨b4, b5⟩, b6⟩ := h
   exact ⟨.inl a1, .inr (i2 _ (by omega) (by omega)), askB_null a2, .inl a3, .inl a5, .inr b6, .inl a6, .inr ⟨by omega, b5⟩⟩
 · cases h
theorem nil_of {α : Type} {l : List α} (h : l.length = 0) : l = [] := List.eq_nil_of_length_eq_zero h
theorem fit_valid {m : Ms} (h : fitB m = true) (hr : MsR m) (hl : (msL m).length ≤ 65536) : MsV (normM m) := by
 rw [fitB, Bool.and_eq_true, Bool.and_eq_true] at h
 obtain ⟨hk, he, hB⟩ := h
 obtain ⟨w1, w2, w3, w4, w5, w6, w7, w8⟩ := fit_weak he hB
 simp only [msL, List.length_append, be_len] at hl
 have hc := hr.cg
 refine ⟨in_valid hk (by decide) (by decide), in_valid he (by decide) (by decide), ?_, ?_, ask_valid w3 hr.rq, ?_, ?_, ?_, ?_, ?_, ?_⟩
 · rcases w1 with e | e
   · show iV 1 m.v
     rw [e]
     exact ⟨by decide, by decide⟩
   · exact in_valid e (by decide) (by decide)
 · rcases w2 with e | e
   · show iV 2 m.sl
     rw [e]
     exact ⟨by decide, by decide⟩
   · exact e
 · refine ⟨?_, canW_idem _, can_lt hr.rs⟩
   rcases w4 with e | e
   · show rsB m.rs.1 = true
     rw [e.1]
     rfl
   · exact e
 · show m.tx.size ≤ 65535
   simp only [txL, List.length_append, be_len, data_len] at hl
   omega
 · show m.nx.length < 256 ∧ ∀ x, x ∈ m.nx → iV 1 x
   rcases w5 with e | e
   · rw [nil_of e]
     exact ⟨by decide, fun x hx => by cases hx⟩
   · have := mem_len e
     exact ⟨by omega, fun x hx => by have := mem_in e x hx; exact ⟨by omega, by omega⟩⟩
 · show sgsV m.sg
   rcases w6 with e | e
   · rw [nil_of e]
     exact ⟨by decide, fun x hx => by cases hx⟩
   · exact sgs_valid e (sgs_short (by omega))
 · show (m.cg.map nCg).length < 256 ∧ ∀ x, x ∈ m.cg.map nCg → cgV x
   rcases w7 with e | ⟨e1, e2⟩
   · rw [nil_of e]
     exact ⟨by decide, fun x hx => by cases hx⟩
   · refine ⟨by rw [List.length_map]; omega, fun x hx => ?_⟩
     obtain ⟨y, hy, rfl⟩ := List.mem_map.1 hx
     have h1 := flat_le (f := cgL) hy
     rw [show lsL cgL m.cg = be 1 m.cg.length ++ m.cg.flatMap cgL from rfl, List.length_append] at hl
     exact cg_valid he (e2 y hy) (hc y hy) (by omega)
 · show m.ln.length < 256 ∧ ∀ x, x ∈ m.ln → lnV x
   rcases w8 with e | ⟨e1, e2⟩
   · rw [nil_of e]
     exact ⟨by decide, fun x hx => by cases hx⟩
   · exact ⟨by omega, ln_valid e2 (by omega)⟩
def pWhole (t : ByteArray) : Option Ms := (pMs t).bind fun a => if a.2.size = 0 ∧ fitB a.1 = true then some a.1 else none
theorem fit_norm {m : Ms} : fitB (normM m) = fitB m := by
 have hct : ∀ (e : Int) (l : List Ct), ctsB e (l.map nCt) = ctsB e l := fun e l => by
   rw [ctsB, ctsB, List.length_map]
   congr 1
   refine allTo_congr (fun i hi => ?_)
   have g : ∀ k, (l.map nCt).getD k ct0 = nCt (l.getD k ct0) := fun k => by
     by_cases hk : k < l.length
     · simp [hk]
     · simp [hk]
       rfl
   rw [ctAt, ctAt, g, g]
   show (((inB _ 0 15 && ofB e _) && (askB (normR _) && sigsB _)) && _) = _
   rw [show ∀ r, askB (normR r) = askB r from fun r => by rw [askB, askB, (norm_alike r).1, (norm_alike r).2.1]]
   rfl
 have hcg : ∀ (e v : Int) (l : List Cg) (k : Nat), cgsB e v (l.map nCg) k = cgsB e v l k := fun e v l k => by
   rw [cgsB, cgsB, List.length_map]
   congr 1
   refine allTo_congr (fun i hi => ?_)
   have g : ∀ k, (l.map nCg).getD k cg0 = nCg (l.getD k cg0) := fun k => by
     by_cases hk : k < l.length
     · simp [hk]
     · simp [hk]
       rfl
   rw [cgAt, cgAt, g, g]
   show ((decide (_ = v) && ((inB _ 0 15 && inB _ 1 15) && (ctsB e (List.map nCt _) && sigB _))) && _) = _
   rw [hct]
   rfl
 have ho : ∀ o, onlyB (normM m) o = onlyB m o := fun o => by
   rw [onlyB, onlyB]
   show ((o.v || decide (m.v = 0)) && ((o.s || decide (m.sl = 0)) && ((o.r || nullB (normR m.rq)) && ((o.x || (decide (m.rs.1 = 0) && decide (canW (canW m.rs.2) = 0))) && ((o.t || decide (m.tx.size = 0)) && ((o.n || decide (m.nx.length = 0)) && ((o.g || decide (m.sg.length = 0)) && ((o.c || decide ((m.cg.map nCg).length = 0)) && (o.l || decide (m.ln.length = 0))))))))))  = _
   rw [(norm_alike m.rq).1, canW_idem, List.length_map]
 have hr : rightB (normM m).rq = rightB m.rq := (norm_alike m.rq).2.1
 have hn : nullB (normM m).rq = nullB m.rq := (norm_alike m.rq).1
 have ha : askB (normM m).rq = askB m.rq := by rw [askB, askB, hr, hn]
 have hc : ∀ k, cgsB (normM m).ep (normM m).v (normM m).cg k = cgsB m.ep m.v m.cg k := fun k => hcg _ _ _ _
 rw [fitB, fitB, kindB, kindB, ho, ho, ho, ho, ho, ho, ho, ho, hr, hn, ha, hc, hc]
 rfl
theorem whole_good {m : Ms} (h : fitB m = true) (hr : MsR m) (hl : (msL m).length ≤ 65536) : pWhole ⟨(msL m).toArray⟩ = some (normM m) := by
 obtain ⟨s', h1, h2⟩ := inv_ms.good ⟨(msL m).toArray⟩ (normM m) [] (fit_valid h hr hl) (by rw [msL_norm, List.append_nil])
 have hz : s'.size = 0 := by rw [← data_len, h2]; rfl
 rw [pWhole, h1]
 show (if s'.size = 0 ∧ fitB (normM m) = true then some (normM m) else none) = _
 rw [if_pos ⟨hz, by rw [fit_norm]; exact h⟩]
theorem whole_back {t : ByteArray} {m : Ms} (h : pWhole t = some m) : fitB m = true ∧ t.data.toList = msL m ∧ MsV m := by
 unfold pWhole at h
 cases h1 : pMs t with
 | none => rw [h1] at h; cases h
 | some a =>
   rw [h1] at h
   simp only [Option.bind_some] at h
   split at h
   · rename_i h2
     cases h
     obtain ⟨v, e⟩ := inv_ms.back t a.1 a.2 h1
     have hz : a.2.data.toList = [] := List.eq_nil_of_length_eq_zero (by rw [data_len]; exact h2.1)
     rw [hz, List.append_nil] at e
     exact ⟨h2.2, e, v⟩
   · cases h
end
section
open Go.ChangeShapes Go.WideShapes Go.ChangeAt Go.RowKit
inductive Sh where
 | i | b | s | q | fl
 | l (bytes sz : Nat) (e : Sh)
 | st (f : Sh)
 | u
 | c (a r : Sh)
def Sh.sz : Sh → Nat
 | .i => 1 | .b => 1 | .s => 1 | .q => 1 | .fl => 1
 | .l _ _ _ => 1
 | .st f => f.sz
 | .u => 0
 | .c a r => a.sz + r.sz
def Sh.Of (P : Program) : Sh → TypeId ⊕ (List Field × Nat) → Prop
 | .i, .inl t => P.underlying t = some (.int .i64)
 | .b, .inl t => P.underlying t = some .bool
 | .s, .inl t => P.underlying t = some .string
 | .q, .inl t => P.underlying t = some (.int .u64)
 | .fl, .inl t => P.underlying t = some (.float .f64)
 | .l bytes sz e, .inl t => ∃ te, P.underlying t = some (.slice te) ∧ P.bytesOf te = bytes ∧ P.cellsOf te = sz ∧ e.sz = sz ∧ 0 < sz ∧ Sh.Of P e (.inl te)
 | .st f, .inl t => ∃ fs, P.underlying t = some (.struct fs) ∧ P.cellsOf t = f.sz ∧ Sh.Of P f (.inr (fs.toList, 0))
 | .u, .inr x => x.1 = []
 | .c a r, .inr x => ∃ f fs, x.1 = f :: fs ∧ f.offset = x.2 ∧ P.cellsOf f.type = a.sz ∧ Sh.Of P a (.inl f.type) ∧ Sh.Of P r (.inr (fs, x.2 + a.sz))
 | _, _ => False
def Fits (S : Prop) (U : Nat) : Sh → List Dat → Prop
 | .i, ds => ∃ x : Int, ds = [.i x] ∧ -9223372036854775808 ≤ x ∧ x ≤ 9223372036854775807
 | .b, ds => ∃ x : Bool, ds = [.b x]
 | .s, ds => ∃ x : ByteArray, ds = [.s x] ∧ x.size ≤ maxLen ∧ (S → x.size ≤ 140737488351232) ∧ x.size ≤ U
 | .q, ds => ∃ x : Nat, ds = [.q x] ∧ x < 18446744073709551616
 | .fl, ds => ∃ x : Nat, ds = [.f x] ∧ x < 18446744073709551616
 | .l bytes sz e, ds => ∃ es : List (List Dat), ds = [.l sz es] ∧ es.length ≤ maxLen ∧ (S → es.length * bytes ≤ 140737488351232) ∧ es.length ≤ U ∧ ∀ d, d ∈ es → Fits S U e d
 | .st f, ds => Fits S U f ds
 | .u, ds => ds = []
 | .c a r, ds => ∃ d1 d2, ds = d1 ++ d2 ∧ Fits S U a d1 ∧ Fits S U r d2
theorem Fits.mono {S S' : Prop} {U U' : Nat} (hS : S' → S) (hU : U ≤ U') : ∀ {sh : Sh} {ds : List Dat}, Fits S U sh ds → Fits S' U' sh ds
 | .i, _, h => h
 | .b, _, h => h
 | .q, _, h => h
 | .fl, _, h => h
 | .s, _, ⟨x, h1, h2, h3, h4⟩ => ⟨x, h1, h2, fun s => h3 (hS s), Nat.le_trans h4 hU⟩
 | .l _ _ _, _, ⟨es, h1, h2, h3, h4, h5⟩ => ⟨es, h1, h2, fun s => h3 (hS s), Nat.le_trans h4 hU, fun d hd => Fits.mono hS hU (h5 d hd)⟩
 | .st f, ds, h => Fits.mono (sh := f) (ds := ds) hS hU h
 | .u, _, h => h
 | .c _ _, _, ⟨d1, d2, h1, h2, h3⟩ => ⟨d1, d2, h1, Fits.mono hS hU h2, Fits.mono hS hU h3⟩
theorem Fits.len {S : Prop} {U : Nat} : ∀ {sh : Sh} {ds : List Dat}, Fits S U sh ds → ds.length = sh.sz
 | .i, _, ⟨x, h, _⟩ => by rw [h]; rfl
 | .b, _, ⟨x, h⟩ => by rw [h]; rfl
 | .q, _, ⟨x, h, _⟩ => by rw [h]; rfl
 | .fl, _, ⟨x, h, _⟩ => by rw [h]; rfl
 | .s, _, ⟨x, h, _⟩ => by rw [h]; rfl
 | .l _ _ _, _, ⟨es, h, _⟩ => by rw [h]; rfl
 | .st f, ds, h => Fits.len (sh := f) (ds := ds) h
 | .u, _, h => by rw [show _ = [] from h]; rfl
 | .c _ _, _, ⟨d1, d2, h1, h2, h3⟩ => by rw [h1, List.length_append, Fits.len h2, Fits.len h3]; rfl
def CellsAre (G : Nat → Prop) (W : World) (cs : List Value) (ds : List Dat) : Prop := ∀ (q : Nat) (d : Dat), ds[q]? = some d → ∃ u, cs[q]? = some u ∧ Reads G W u d ∧ Caps W u d
theorem cells_one {G : Nat → Prop} {W : World} {v : Value} {d : Dat} (h : Reads G W v d) (hc : Caps W v d) : CellsAre G W [v] [d] := fun q x hq => by
 cases q with
 | zero => cases hq; exact ⟨v, rfl, h, hc⟩
 | succ q => simp at hq
theorem bulkD_pos {H : Type} (d : DataW H) : 1 ≤ Rows.uptoBulk d := by
 cases d with
 | lit l => cases l <;> simp [Rows.uptoBulk]
 | _ => simp [Rows.uptoBulk]
theorem bulkD_all {H : Type} : ∀ l : List (DataW H), l.length ≤ Rows.uptoBulkAll l
 | [] => Nat.zero_le _
 | d :: r => by
   have h1 := bulkD_pos d
   have h2 := bulkD_all r
   simp only [Rows.uptoBulkAll, List.length_cons]
   omega
theorem bulkD_in {H : Type} : ∀ (l : List (DataW H)) (j : Nat) (d : DataW H), l[j]? = some d → Rows.uptoBulk d ≤ Rows.uptoBulkAll l
 | [], _, _, h => by simp at h
 | d :: r, 0, d', h => by simp at h; subst h; simp only [Rows.uptoBulkAll]; omega
 | d :: r, j + 1, d', h => by
   have := bulkD_in r j d' (by simpa using h)
   simp only [Rows.uptoBulkAll]
   omega
theorem weights_all {H : Type} {P : Program} {e : TypeId} : ∀ {ds : List (DataW H)} {j : Nat} {d : DataW H}, ds[j]? = some d → ∀ n ∈ d.weights P e, n ∈ DataW.weightsAll P e ds
 | [], _, _, h => by simp at h
 | d :: r, 0, d', h => fun n hn => by simp at h; subst h; simp only [DataW.weightsAll, List.mem_append]; exact .inl hn
 | d :: r, j + 1, d', h => fun n hn => by simp only [DataW.weightsAll, List.mem_append]; exact .inr (weights_all (by simpa using h) n hn)
theorem list_pick {α : Type} {Q : Nat → α → Prop} : ∀ n, (∀ i, i < n → ∃ x, Q i x) → ∃ xs : List α, xs.length = n ∧ ∀ i x, xs[i]? = some x → Q i x
 | 0, _ => ⟨[], rfl, fun i x h => by simp at h⟩
 | n + 1, h => by
   obtain ⟨xs, hl, hx⟩ := list_pick n (fun i hi => h i (by omega))
   obtain ⟨x, hq⟩ := h n (by omega)
   refine ⟨xs ++ [x], by simp [hl], fun i y hy => ?_⟩
   rcases Nat.lt_trichotomy i n with hi | hi | hi
   · rw [List.getElem?_append_left (by omega)] at hy; exact hx i y hy
   · subst hi; rw [List.getElem?_append_right (by omega), hl, Nat.sub_self] at hy; cases hy; exact hq
   · rw [List.getElem?_eq_none (by simp; omega)] at hy; cases hy
section
variable {H : Type} {enc : TypeId × Value → H} {W : World}
theorem trod_real {P : Program} {t : TypeId} {fuel : Nat} {cs : List Value} {x : DataW H × List MemPlace} (ht : P.underlying t = some (.float .f64)) (h : DataW.trod enc P W 0 (fun _ => true) true fuel t cs = some x) : ∃ b : Nat, cs = [.float .f64 b] ∧ b < 18446744073709551616 := by
 have key : ∃ b : Nat, cs = [.float .f64 b] ∧ (Lit.float .f64 b).wf = true := by
   cases fuel with
   | zero => simp [DataW.trod] at h
   | succ n =>
     unfold DataW.trod at h
     rw [ht] at h
     split at h <;> simp_all
 obtain ⟨b, h1, h2⟩ := key
 exact ⟨b, h1, by simpa [Lit.wf] using h2⟩
def OpensT (enc : TypeId × Value → H) (P : Program) (W : World) (sh : Sh) : Prop := ∀ (t : TypeId) (fuel : Nat) (cs : List Value) (x : DataW H × List MemPlace), sh.Of P (.inl t) → DataW.trod enc P W 0 (fun _ => true) true fuel t cs = some x →
 ∃ ds, Fits (∀ m ∈ x.1.weights P t, m ≤ reachBytes) (Rows.uptoBulk x.1) sh ds ∧ CellsAre (fun _ => True) W cs ds
def OpensF (enc : TypeId × Value → H) (P : Program) (W : World) (sh : Sh) : Prop := ∀ (fs : List Field) (o n : Nat) (cs : List Value) (xs : List (DataW H × List MemPlace)), sh.Of P (.inr (fs, o)) → xs.length = fs.length →
 (∀ (i : Nat) (f : Field), fs[i]? = some f → DataW.trod enc P W 0 (fun _ => true) true n f.type ((cs.drop f.offset).take (P.cellsOf f.type)) = xs[i]?) →
 ∃ ds, Fits (∀ m ∈ DataW.weightsEach P (fs.map (·.type)) (xs.map (·.1)), m ≤ reachBytes) (Rows.uptoBulkAll (xs.map (·.1))) sh ds ∧ CellsAre (fun _ => True) W (cs.drop o) ds
theorem opens_all (P : Program) (sh : Sh) : OpensT enc P W sh ∧ OpensF enc P W sh := by
 induction sh with
 | i =>
   refine ⟨fun t fuel cs x hO h => ?_, fun fs o n cs xs hO => by cases hO⟩
   obtain ⟨k, rfl, rfl, hwf⟩ := DataW.trod_int (by exact hO) h
   have hrg : -9223372036854775808 ≤ k ∧ k ≤ 9223372036854775807 := by simpa [Lit.wf, IntKind.min, IntKind.max, IntKind.bits, IntKind.signed] using hwf
   exact ⟨[.i k], ⟨k, rfl, hrg⟩, cells_one (.i k) (.i k)⟩
 | b =>
   refine ⟨fun t fuel cs x hO h => ?_, fun fs o n cs xs hO => by cases hO⟩
   obtain ⟨k, rfl, rfl⟩ := DataW.trod_bool (by exact hO) h
   exact ⟨[.b k], ⟨k, rfl⟩, cells_one (.b k) (.b k)⟩
 | s =>
   refine ⟨fun t fuel cs x hO h => ?_, fun fs o n cs xs hO => by cases hO⟩
   obtain ⟨k, rfl, rfl, hz⟩ := DataW.trod_string (by exact hO) h
   refine ⟨[.s k], ⟨k, rfl, hz, fun hs => ?_, ?_⟩, cells_one (.s k) (.s k)⟩
   · have := hs k.data.toList.length (by simp [DataW.weights])
     rw [reachBytes] at this
     simpa using this
   · simp [Rows.uptoBulk]
 | q =>
   refine ⟨fun t fuel cs x hO h => ?_, fun fs o n cs xs hO => by cases hO⟩
   obtain ⟨k, rfl, rfl, hwf⟩ := DataW.trod_int (by exact hO) h
   have hrg : 0 ≤ k ∧ k ≤ 18446744073709551615 := by simpa [Lit.wf, IntKind.min, IntKind.max, IntKind.bits, IntKind.signed] using hwf
   obtain ⟨n, rfl⟩ := Int.eq_ofNat_of_zero_le hrg.1
   exact ⟨[.q n], ⟨n, rfl, by omega⟩, cells_one (.q n) (.q n)⟩
 | fl =>
   refine ⟨fun t fuel cs x hO h => ?_, fun fs o n cs xs hO => by cases hO⟩
   obtain ⟨k, rfl, hk⟩ := trod_real hO h
   exact ⟨[.f k], ⟨k, rfl, hk⟩, cells_one (.f k) (.f k)⟩
 | u =>
   refine ⟨fun t fuel cs x hO h => (by cases hO), fun fs o n cs xs hO hl h => ?_⟩
   exact ⟨[], rfl, fun q d hq => by simp at hq⟩
 | st f ih =>
   refine ⟨fun t fuel cs x hO h => ?_, fun fs o n cs xs hO => by cases hO⟩
   obtain ⟨fs, hu, hc, hF⟩ := hO
   obtain ⟨xs, n, _, rfl, hl, hxl, hf⟩ := DataW.trod_struct hu h
   obtain ⟨ds, h1, h2⟩ := ih.2 fs.toList 0 n cs xs hF (by rw [hxl]; simp) (fun i g hg => hf i g (by simpa using hg))
   refine ⟨ds, Fits.mono (sh := f) (fun hs m hm => hs m (by simp only [DataW.weights, hu]; exact hm)) (by simp only [Rows.uptoBulk]; omega) h1, by simpa using h2⟩
 | c a r iha ihr =>
   refine ⟨fun t fuel cs x hO h => (by cases hO), fun fs o n cs xs hO hl h => ?_⟩
   obtain ⟨f, fs', rfl, hoff, hcell, hA, hR⟩ := hO
   cases xs with
   | nil => simp at hl
   | cons x xs =>
     have h0 := h 0 f rfl
     obtain ⟨d1, f1, c1⟩ := iha.1 f.type n _ x hA h0
     obtain ⟨d2, f2, c2⟩ := ihr.2 fs' (o + a.sz) n cs xs hR (by simpa using hl) (fun i g hg => h (i + 1) g (by simpa using hg))
     refine ⟨d1 ++ d2, ⟨d1, d2, rfl, f1.mono (fun hs m hm => hs m (by simp only [List.map_cons, DataW.weightsEach, List.mem_append]; exact .inl hm)) (by simp only [List.map_cons, Rows.uptoBulkAll]; omega), f2.mono (fun hs m hm => hs m (by simp only [List.map_cons, DataW.weightsEach, List.mem_append]; exact .inr hm)) (by simp only [List.map_cons, Rows.uptoBulkAll]; omega)⟩, ?_⟩
     · intro q d hq
       have hl1 := f1.len
       by_cases hqa : q < d1.length
       · rw [List.getElem?_append_left hqa] at hq
         obtain ⟨u, hu, hR⟩ := c1 q d hq
         refine ⟨u, ?_, hR⟩
         rw [List.getElem?_take] at hu
         split at hu
         · simp only at hoff
           rw [← hoff]
           exact hu
         · cases hu
       · rw [List.getElem?_append_right (by omega)] at hq
         obtain ⟨u, hu, hR⟩ := c2 _ d hq
         refine ⟨u, ?_, hR⟩
         rw [List.getElem?_drop] at hu ⊢
         rw [show o + q = o + a.sz + (q - d1.length) by omega]
         exact hu
 | l bytes sz e ih =>
   refine ⟨fun t fuel cs x hO h => ?_, fun fs o n cs xs hO => by cases hO⟩
   obtain ⟨te, hu, hby, hsz, hez, hz0, hE⟩ := hO
   rcases Go.Deep.open_slice hu h with ⟨rfl, rfl⟩ | ⟨ad, len, cap, m, n, D, Pl, rfl, _, hl, hm, hmm, hx, hel⟩
   · exact ⟨[.l sz []], ⟨[], rfl, Nat.zero_le _, fun _ => by simp, Nat.zero_le _, fun d hd => by simp at hd⟩, cells_one (.nil none 0 sz) (.l none 0 0 sz [] (Nat.le_refl _) (fun g off j q e d u h => by cases h))⟩
   · simp at hmm
     subst hmm
     have hx1 : x.1 = .slice ((List.range len).map D) ((List.range (m - len)).map fun j => D (len + j)) := by rw [hx]
     have each : ∀ i, i < len → ∃ d : List Dat, Fits (∀ q ∈ x.1.weights P t, q ≤ reachBytes) (Rows.uptoBulk x.1) e d ∧ ∃ cs', W.cells? 0 (ad.add (i * sz)) sz = some cs' ∧ CellsAre (fun _ => True) W cs' d := by
       intro i hi
       obtain ⟨cs', h1, h2⟩ := hel i (by omega)
       rw [hsz] at h1
       obtain ⟨d, f1, c1⟩ := ih.1 te n cs' _ hE h2
       have hget : ((List.range len).map D)[i]? = some (D i) := by rw [List.getElem?_map, List.getElem?_range hi]; rfl
       have hw : ∀ q ∈ (D i).weights P te, q ∈ x.1.weights P t := fun q hq => by
         rw [hx1]
         simp only [DataW.weights, hu, List.mem_cons, List.mem_append]
         exact .inr (.inl (weights_all hget q hq))
       have hbk : Rows.uptoBulk (D i) ≤ Rows.uptoBulk x.1 := by
         rw [hx1]
         have := bulkD_in _ i _ hget
         simp only [Rows.uptoBulk]
         omega
       exact ⟨d, f1.mono (fun hs q hq => hs q (hw q hq)) hbk, cs', h1, c1⟩
     obtain ⟨es, hil, hip⟩ := list_pick len each
     have hcellA : ∀ (j : Nat) (d : List Dat), es[j]? = some d → d.length = sz ∧ ∀ (q : Nat) (y : Dat), d[q]? = some y → ∃ u, W.cell? (ad.add (j * sz + q)) = some u ∧ Reads (fun _ => True) W u y ∧ Caps W u y := fun j d hj => by
       obtain ⟨hf, cs', h1, h2⟩ := hip j d hj
       obtain ⟨_, hlen, hc⟩ := World.cells?_some h1
       refine ⟨by rw [hf.len, hez], fun q y hy => ?_⟩
       obtain ⟨u, hu, hR⟩ := h2 q y hy
       have hq := (List.getElem?_eq_some_iff.1 hu).1
       have := hc q (by omega)
       rw [Go.Deep.add_add] at this
       exact ⟨u, this.trans hu, hR⟩
     refine ⟨[.l sz es], ⟨es, rfl, by omega, fun hs => ?_, ?_, fun d hd => ?_⟩, cells_one ?_ ?_⟩
     · have := hs ((len + (m - len)) * P.bytesOf te) (by rw [hx1]; simp [DataW.weights, hu])
       rw [hby, reachBytes] at this
       rw [hil]
       have h3 : len + (m - len) = m := by omega
       rw [h3] at this
       exact Nat.le_trans (Nat.mul_le_mul_right _ hl) this
     · rw [hx1, hil]
       have := bulkD_all ((List.range len).map D)
       rw [List.length_map, List.length_range] at this
       simp only [Rows.uptoBulk]
       omega
     · obtain ⟨i, hi, rfl⟩ := List.getElem_of_mem hd
       exact (hip i _ (List.getElem?_eq_getElem hi)).1
     · rw [← hil]
       by_cases h0 : len = 0
       · rw [List.eq_nil_of_length_eq_zero (by omega : es.length = 0)]
         exact .nil (some ad) m sz
       · obtain ⟨b, off, spot⟩ := ad
         have hcell : ∀ (j : Nat) (d : List Dat), es[j]? = some d → d.length = sz ∧ ∀ (q : Nat) (y : Dat), d[q]? = some y → ∃ u, W.cell? ((Addr.mk b off spot).add (j * sz + q)) = some u ∧ Reads (fun _ => True) W u y := fun j d hj => ⟨(hcellA j d hj).1, fun q y hy => by
           obtain ⟨u, h1, h2, _⟩ := (hcellA j d hj).2 q y hy
           exact ⟨u, h1, h2⟩⟩
         obtain ⟨d0, hd0⟩ : ∃ d, es[0]? = some d := ⟨es[0]'(by omega), List.getElem?_eq_getElem _⟩
         have hd0l := (hcell 0 d0 hd0).1
         obtain ⟨y0, hy0⟩ : ∃ y, d0[0]? = some y := ⟨d0[0]'(by omega), List.getElem?_eq_getElem _⟩
         obtain ⟨u0, hu0, _⟩ := (hcell 0 d0 hd0).2 0 y0 hy0
         have hspot : spot = none := by simpa [Addr.add] using World.cell?_spot hu0
         subst hspot
         have hb0 : b < W.heap.size := by have := World.block_lt_of_cell? W _ hu0; simpa [Addr.add] using this
         have hsome : ∀ (j : Nat) (d : List Dat) (q : Nat) (y : Dat), es[j]? = some d → d[q]? = some y → ∃ u, W.cell? ⟨b, off + j * sz + q, none⟩ = some u ∧ Reads (fun _ => True) W u y := fun j d q y hj hy => by
           obtain ⟨u, h1, h2⟩ := (hcell j d hj).2 q y hy
           rw [Addr.add_lit] at h1
           exact ⟨u, by rw [Nat.add_assoc]; exact h1, h2⟩
         refine .l b off m sz es (fun j q => (W.cell? ⟨b, off + j * sz + q, none⟩).getD undef) trivial hb0 (fun j d hj => (hcell j d hj).1) (fun j d q y hj hy => ?_) (fun j d q y hj hy => ?_)
         · obtain ⟨u, h1, _⟩ := hsome j d q y hj hy
           rw [h1]; rfl
         · obtain ⟨u, h1, h2⟩ := hsome j d q y hj hy
           rw [h1]; exact h2
     · refine .l (some ad) len m sz es hl (fun g off j q e d u hg hj hq hu => ?_)
       cases hg
       obtain ⟨u', h1, _, h2⟩ := (hcellA j e hj).2 q d hq
       rw [Addr.add_lit, ← Nat.add_assoc, hu] at h1
       cases h1
       exact h2
end
end
section
open Go.ChangeShapes Go.WideShapes Go.ChangeAt Go.RowKit
def dCt (c : Ct) : List Dat := [.i c.1, .i c.2.1, .i c.2.2.1.c, .i c.2.2.1.st, .i c.2.2.1.k, .s c.2.2.1.key, .f c.2.2.1.b, .i c.2.2.1.id, dPairs c.2.2.2]
def dCts (l : List Ct) : Dat := .l 9 (l.map dCt)
def dCg (c : Cg) : List Dat := [.i c.1, .i c.2.1, dCts c.2.2.1, .i c.2.2.2.1, .s c.2.2.2.2]
def dCgs (l : List Cg) : Dat := .l 5 (l.map dCg)
def dLn (k : Ln) : List Dat := [.i k.1.1, dInts k.1.2, dPairs k.2]
def dLns (l : List Ln) : Dat := .l 3 (l.map dLn)
def dMs (m : Ms) : List Dat := [.i m.k, .i m.ep, .i m.v, .i m.sl, .i m.rq.c, .i m.rq.st, .i m.rq.k, .s m.rq.key, .f m.rq.b, .i m.rq.id, .i m.rs.1, .f m.rs.2, .s m.tx, dInts m.nx, dPairs m.sg, dCgs m.cg, dLns m.ln]
def shInts : Sh := .l 8 1 .i
def shSig : Sh := .st (.c .i (.c .s .u))
def shSigs : Sh := .l 24 2 shSig
def shConf : Sh := .st (.c .i (.c shInts .u))
def shLink : Sh := .st (.c shConf (.c shSigs .u))
def shLinks : Sh := .l 56 3 shLink
def shOpr : Sh := .st (.c .i (.c .s (.c .fl (.c .i .u))))
def shReq : Sh := .st (.c .i (.c .i (.c shOpr .u)))
def shRes : Sh := .st (.c .i (.c .fl .u))
def shCert : Sh := .st (.c .i (.c .i (.c shReq (.c shSigs .u))))
def shCerts : Sh := .l 96 9 shCert
def shChg : Sh := .st (.c .i (.c .i (.c shCerts (.c shSig .u))))
def shChgs : Sh := .l 64 5 shChg
def shMsg : Sh := .st (.c .i (.c .i (.c .i (.c .i (.c shReq (.c shRes (.c .s (.c shInts (.c shSigs (.c shChgs (.c shLinks .u)))))))))))
theorem of_ints : shInts.Of Tryz.prog (.inl 22) := ⟨_, Tryz.underlying22, by kernel_rfl, by kernel_rfl, rfl, by decide, Tryz.underlying3⟩
theorem of_sig : shSig.Of Tryz.prog (.inl 139) := ⟨_, Tryz.underlying139, by kernel_rfl, ⟨_, _, rfl, rfl, by kernel_rfl, Tryz.underlying3, ⟨_, _, rfl, rfl, by kernel_rfl, Tryz.underlying9, rfl⟩⟩⟩
theorem of_sigs : shSigs.Of Tryz.prog (.inl 44) := ⟨_, Tryz.underlying44, by kernel_rfl, by kernel_rfl, rfl, by decide, of_sig⟩
theorem of_conf : shConf.Of Tryz.prog (.inl 24) := ⟨_, Tryz.underlying24, by kernel_rfl, ⟨_, _, rfl, rfl, by kernel_rfl, Tryz.underlying3, ⟨_, _, rfl, rfl, by kernel_rfl, of_ints, rfl⟩⟩⟩
theorem of_link : shLink.Of Tryz.prog (.inl 74) := ⟨_, Tryz.underlying74, by kernel_rfl, ⟨_, _, rfl, rfl, by kernel_rfl, of_conf, ⟨_, _, rfl, rfl, by kernel_rfl, of_sigs, rfl⟩⟩⟩
theorem of_links : shLinks.Of Tryz.prog (.inl 46) := ⟨_, Tryz.underlying46, by kernel_rfl, by kernel_rfl, rfl, by decide, of_link⟩
theorem of_opr : shOpr.Of Tryz.prog (.inl 39) := ⟨_, Tryz.underlying39, by kernel_rfl, ⟨_, _, rfl, rfl, by kernel_rfl, Tryz.underlying3, ⟨_, _, rfl, rfl, by kernel_rfl, Tryz.underlying9, ⟨_, _, rfl, rfl, by kernel_rfl, Tryz.underlying37, ⟨_, _, rfl, rfl, by kernel_rfl, Tryz.underlying3, rfl⟩⟩⟩⟩⟩
theorem of_req : shReq.Of Tryz.prog (.inl 41) := ⟨_, Tryz.underlying41, by kernel_rfl, ⟨_, _, rfl, rfl, by kernel_rfl, Tryz.underlying3, ⟨_, _, rfl, rfl, by kernel_rfl, Tryz.underlying3, ⟨_, _, rfl, rfl, by kernel_rfl, of_opr, rfl⟩⟩⟩⟩
theorem of_res : shRes.Of Tryz.prog (.inl 43) := ⟨_, Tryz.underlying43, by kernel_rfl, ⟨_, _, rfl, rfl, by kernel_rfl, Tryz.underlying3, ⟨_, _, rfl, rfl, by kernel_rfl, Tryz.underlying37, rfl⟩⟩⟩
theorem of_cert : shCert.Of Tryz.prog (.inl 163) := ⟨_, Tryz.underlying163, by kernel_rfl, ⟨_, _, rfl, rfl, by kernel_rfl, Tryz.underlying3, ⟨_, _, rfl, rfl, by kernel_rfl, Tryz.underlying3, ⟨_, _, rfl, rfl, by kernel_rfl, of_req, ⟨_, _, rfl, rfl, by kernel_rfl, of_sigs, rfl⟩⟩⟩⟩⟩
theorem of_certs : shCerts.Of Tryz.prog (.inl 159) := ⟨_, Tryz.underlying159, by kernel_rfl, by kernel_rfl, rfl, by decide, of_cert⟩
theorem of_chg : shChg.Of Tryz.prog (.inl 161) := ⟨_, Tryz.underlying161, by kernel_rfl, ⟨_, _, rfl, rfl, by kernel_rfl, Tryz.underlying3, ⟨_, _, rfl, rfl, by kernel_rfl, Tryz.underlying3, ⟨_, _, rfl, rfl, by kernel_rfl, of_certs, ⟨_, _, rfl, rfl, by kernel_rfl, of_sig, rfl⟩⟩⟩⟩⟩
theorem of_chgs : shChgs.Of Tryz.prog (.inl 45) := ⟨_, Tryz.underlying45, by kernel_rfl, by kernel_rfl, rfl, by decide, of_chg⟩
theorem of_msg : shMsg.Of Tryz.prog (.inl 48) := ⟨_, Tryz.underlying48, by kernel_rfl, ⟨_, _, rfl, rfl, by kernel_rfl, Tryz.underlying3, ⟨_, _, rfl, rfl, by kernel_rfl, Tryz.underlying3, ⟨_, _, rfl, rfl, by kernel_rfl, Tryz.underlying3, ⟨_, _, rfl, rfl, by kernel_rfl, Tryz.underlying3, ⟨_, _, rfl, rfl, by kernel_rfl, of_req, ⟨_, _, rfl, rfl, by kernel_rfl, of_res, ⟨_, _, rfl, rfl, by kernel_rfl, Tryz.underlying9, ⟨_, _, rfl, rfl, by kernel_rfl, of_ints, ⟨_, _, rfl, rfl, by kernel_rfl, of_sigs, ⟨_, _, rfl, rfl, by kernel_rfl, of_chgs, ⟨_, _, rfl, rfl, by kernel_rfl, of_links, rfl⟩⟩⟩⟩⟩⟩⟩⟩⟩⟩⟩⟩
theorem fits_map {α : Type} {f : α → List Dat} {Q : α → Prop} : ∀ (es : List (List Dat)), (∀ d, d ∈ es → ∃ x, d = f x ∧ Q x) → ∃ xs : List α, es = xs.map f ∧ ∀ x, x ∈ xs → Q x
 | [], _ => ⟨[], rfl, fun x h => by cases h⟩
 | e :: es, h => by
   obtain ⟨x, rfl, hx⟩ := h e (List.mem_cons_self ..)
   obtain ⟨xs, rfl, hxs⟩ := fits_map es (fun d hd => h d (List.mem_cons_of_mem _ hd))
   refine ⟨x :: xs, rfl, fun y hy => ?_⟩
   rcases List.mem_cons.1 hy with rfl | hy
   · exact hx
   · exact hxs y hy
def iR (z : Int) : Prop := -9223372036854775808 ≤ z ∧ z ≤ 9223372036854775807
def rqR (r : Rq) : Prop := (iR r.c ∧ iR r.st) ∧ (iR r.k ∧ iR r.id) ∧ r.key.size ≤ maxLen ∧ r.b < 18446744073709551616
def sgsR (l : List Sg) : Prop := l.length ≤ maxLen ∧ ∀ p, p ∈ l → iR p.1 ∧ p.2.size ≤ maxLen
def ctR (c : Ct) : Prop := (iR c.1 ∧ iR c.2.1) ∧ rqR c.2.2.1 ∧ sgsR c.2.2.2
def cgR (c : Cg) : Prop := (iR c.1 ∧ iR c.2.1) ∧ (c.2.2.1.length ≤ maxLen ∧ ∀ x, x ∈ c.2.2.1 → ctR x) ∧ iR c.2.2.2.1 ∧ c.2.2.2.2.size ≤ maxLen
def intsR (l : List Int) : Prop := l.length ≤ maxLen ∧ ∀ x, x ∈ l → iR x
def lnR (k : Ln) : Prop := iR k.1.1 ∧ intsR k.1.2 ∧ sgsR k.2
structure MsB (m : Ms) : Prop where
 k : iR m.k
 ep : iR m.ep
 v : iR m.v
 sl : iR m.sl
 rq : rqR m.rq
 rc : iR m.rs.1
 rf : m.rs.2 < 18446744073709551616
 tx : m.tx.size ≤ maxLen
 nx : intsR m.nx
 sg : sgsR m.sg
 cg : m.cg.length ≤ maxLen ∧ ∀ x, x ∈ m.cg → cgR x
 ln : m.ln.length ≤ maxLen ∧ ∀ x, x ∈ m.ln → lnR x
theorem MsB.r {m : Ms} (h : MsB m) : MsR m := ⟨h.rq.2.2.2, h.rf, fun c hc x hx => ((h.cg.2 c hc).2.1.2 x hx).2.1.2.2.2⟩
section
variable {S : Prop} {U : Nat}
theorem fit_ints {ds : List Dat} (h : Fits S U shInts ds) : ∃ xs : List Int, ds = [dInts xs] ∧ intsR xs := by
 obtain ⟨es, rfl, h1, _, _, h3⟩ := h
 obtain ⟨xs, rfl, h4⟩ := fits_map (f := fun x : Int => [Dat.i x]) (Q := iR) es (fun d hd => by obtain ⟨x, hx, hr⟩ := h3 d hd; exact ⟨x, hx, hr⟩)
 rw [List.length_map] at h1
 exact ⟨xs, rfl, h1, h4⟩
theorem fit_sig {ds : List Dat} (h : Fits S U shSig ds) : ∃ p : Sg, ds = [.i p.1, .s p.2] ∧ iR p.1 ∧ p.2.size ≤ maxLen := by
 obtain ⟨d1, d2, rfl, ⟨x, rfl, hx⟩, d3, d4, rfl, ⟨y, rfl, hy, _⟩, rfl⟩ := h
 exact ⟨(x, y), rfl, hx, hy⟩
theorem fit_sigs {ds : List Dat} (h : Fits S U shSigs ds) : ∃ ps : List Sg, ds = [dPairs ps] ∧ sgsR ps := by
 obtain ⟨es, rfl, h1, _, _, h3⟩ := h
 obtain ⟨ps, rfl, h4⟩ := fits_map (f := fun p : Sg => [Dat.i p.1, Dat.s p.2]) (Q := fun p => iR p.1 ∧ p.2.size ≤ maxLen) es (fun d hd => fit_sig (h3 d hd))
 rw [List.length_map] at h1
 exact ⟨ps, rfl, h1, h4⟩
theorem fit_req {ds : List Dat} (h : Fits S U shReq ds) : ∃ r : Rq, ds = [.i r.c, .i r.st, .i r.k, .s r.key, .f r.b, .i r.id] ∧ rqR r := by
 obtain ⟨d1, d2, rfl, ⟨c, rfl, hc⟩, d3, d4, rfl, ⟨st, rfl, hst⟩, d5, d6, rfl, ⟨d7, d8, rfl, ⟨k, rfl, hk⟩, d9, d10, rfl, ⟨key, rfl, hkey, _⟩, d11, d12, rfl, ⟨b, rfl, hb⟩, d13, d14, rfl, ⟨id, rfl, hid⟩, rfl⟩, rfl⟩ := h
 exact ⟨⟨c, st, k, key, b, id⟩, rfl, ⟨hc, hst⟩, ⟨hk, hid⟩, hkey, hb⟩
theorem fit_cert {ds : List Dat} (h : Fits S U shCert ds) : ∃ c : Ct, ds = dCt c ∧ ctR c := by
 obtain ⟨d1, d2, rfl, ⟨v, rfl, hv⟩, d3, d4, rfl, ⟨sl, rfl, hsl⟩, d5, d6, rfl, hr, d7, d8, rfl, hs, rfl⟩ := h
 obtain ⟨r, rfl, hr2⟩ := fit_req hr
 obtain ⟨ps, rfl, hp⟩ := fit_sigs hs
 exact ⟨(v, sl, r, ps), rfl, ⟨hv, hsl⟩, hr2, hp⟩
theorem fit_certs {ds : List Dat} (h : Fits S U shCerts ds) : ∃ l : List Ct, ds = [dCts l] ∧ l.length ≤ maxLen ∧ ∀ x, x ∈ l → ctR x := by
 obtain ⟨es, rfl, h1, _, _, h3⟩ := h
 obtain ⟨l, rfl, h4⟩ := fits_map (f := dCt) (Q := ctR) es (fun d hd => fit_cert (h3 d hd))
 rw [List.length_map] at h1
 exact ⟨l, rfl, h1, h4⟩
theorem fit_chg {ds : List Dat} (h : Fits S U shChg ds) : ∃ c : Cg, ds = dCg c ∧ cgR c := by
 obtain ⟨d1, d2, rfl, ⟨v, rfl, hv⟩, d3, d4, rfl, ⟨sl, rfl, hsl⟩, d5, d6, rfl, hr, d7, d8, rfl, hs, rfl⟩ := h
 obtain ⟨l, rfl, hl⟩ := fit_certs hr
 obtain ⟨p, rfl, hp⟩ := fit_sig hs
 exact ⟨(v, sl, l, p), rfl, ⟨hv, hsl⟩, hl, hp⟩
theorem fit_chgs {ds : List Dat} (h : Fits S U shChgs ds) : ∃ l : List Cg, ds = [dCgs l] ∧ l.length ≤ maxLen ∧ ∀ x, x ∈ l → cgR x := by
 obtain ⟨es, rfl, h1, _, _, h3⟩ := h
 obtain ⟨l, rfl, h4⟩ := fits_map (f := dCg) (Q := cgR) es (fun d hd => fit_chg (h3 d hd))
 rw [List.length_map] at h1
 exact ⟨l, rfl, h1, h4⟩
theorem fit_link {ds : List Dat} (h : Fits S U shLink ds) : ∃ k : Ln, ds = dLn k ∧ lnR k := by
 obtain ⟨d1, d2, rfl, ⟨d5, d6, rfl, ⟨x, rfl, hx⟩, d7, d8, rfl, hi, rfl⟩, d3, d4, rfl, h3, rfl⟩ := h
 obtain ⟨xs, rfl, h4⟩ := fit_ints hi
 obtain ⟨ps, rfl, h6⟩ := fit_sigs h3
 exact ⟨((x, xs), ps), rfl, hx, h4, h6⟩
theorem fit_links {ds : List Dat} (h : Fits S U shLinks ds) : ∃ l : List Ln, ds = [dLns l] ∧ l.length ≤ maxLen ∧ ∀ x, x ∈ l → lnR x := by
 obtain ⟨es, rfl, h1, _, _, h3⟩ := h
 obtain ⟨l, rfl, h4⟩ := fits_map (f := dLn) (Q := lnR) es (fun d hd => fit_link (h3 d hd))
 rw [List.length_map] at h1
 exact ⟨l, rfl, h1, h4⟩
theorem fit_msg {ds : List Dat} (h : Fits S U shMsg ds) : ∃ m : Ms, ds = dMs m ∧ MsB m := by
 obtain ⟨d1, d2, rfl, ⟨k, rfl, hk⟩, d3, d4, rfl, ⟨ep, rfl, hep⟩, d5, d6, rfl, ⟨v, rfl, hv⟩, d7, d8, rfl, ⟨sl, rfl, hsl⟩, d9, d10, rfl, hr, d11, d12, rfl, ⟨e1, e2, rfl, ⟨rc, rfl, hrc⟩, e3, e4, rfl, ⟨rf, rfl, hrf⟩, rfl⟩, d13, d14, rfl, ⟨tx, rfl, htx, _⟩, d15, d16, rfl, hi, d17, d18, rfl, hs, d19, d20, rfl, hc, d21, d22, rfl, hl, rfl⟩ := h
 obtain ⟨r, rfl, hr2⟩ := fit_req hr
 obtain ⟨xs, rfl, hx⟩ := fit_ints hi
 obtain ⟨ps, rfl, hp⟩ := fit_sigs hs
 obtain ⟨cg, rfl, hcg⟩ := fit_chgs hc
 obtain ⟨ln, rfl, hln⟩ := fit_links hl
 exact ⟨⟨k, ep, v, sl, r, (rc, rf), tx, xs, ps, cg, ln⟩, rfl, ⟨hk, hep, hv, hsl, hr2, hrc, hrf, htx, hx, hp, hcg, hln⟩⟩
end
def msC (m : Ms) (v13 v14 v15 v16 : Value) : List Value := [.int .i64 m.k, .int .i64 m.ep, .int .i64 m.v, .int .i64 m.sl, .int .i64 m.rq.c, .int .i64 m.rq.st, .int .i64 m.rq.k, .string m.rq.key, .float .f64 m.rq.b, .int .i64 m.rq.id, .int .i64 m.rs.1, .float .f64 m.rs.2, .string m.tx, v13, v14, v15, v16]
structure MsL (F : Nat → Prop) (w : World) (m : Ms) (v13 v14 v15 v16 : Value) : Prop where
 nx : Reads F w v13 (dInts m.nx)
 sg : Reads F w v14 (dPairs m.sg)
 cg : Reads F w v15 (dCgs m.cg)
 ln : Reads F w v16 (dLns m.ln)
theorem MsL.keep {F : Nat → Prop} {w w' : World} {m : Ms} {v13 v14 v15 v16 : Value} (h : MsL F w m v13 v14 v15 v16) (hs : w.heap.size ≤ w'.heap.size) (hb : ∀ k, k < w.heap.size → F k → w'.heap[k]? = w.heap[k]?) : MsL F w' m v13 v14 v15 v16 :=
 ⟨h.nx.keep hs hb, h.sg.keep hs hb, h.cg.keep hs hb, h.ln.keep hs hb⟩
theorem MsL.under {F : Nat → Prop} {w w' : World} {m : Ms} {v13 v14 v15 v16 : Value} (h : MsL F w m v13 v14 v15 v16) (hb : Below w.heap.size w w') : MsL F w' m v13 v14 v15 v16 := h.keep hb.size (fun k hk _ => hb.block k hk)
end
section
open Go.RowKit
end
section
open Go.RowKit
theorem ret_bool {X Y : Bool} (h : X = Y) : Ending.returned (.bool X) = Ending.returned (.bool Y) := by rw [h]
theorem none_size (s : ByteArray) : s.toList.isEmpty = decide (s.size = 0) := by
 rw [ByteArray.toList_eq]
 cases h : s.data.toList with
 | nil =>
   have : s.size = 0 := by rw [← data_len, h]; rfl
   simp [this]
 | cons x l =>
   have : s.size ≠ 0 := by rw [← data_len, h]; simp
   simp [this]
def OpAt (w : World) (b : Nat) (r : Rq) : Prop := w.heap[b]? = some (.cells [.int .i64 r.k, .string r.key, .float .f64 r.b, .int .i64 r.id].toArray 39 (0, 0))
def RqAt (w : World) (b : Nat) (r : Rq) : Prop := w.heap[b]? = some (.cells [.int .i64 r.c, .int .i64 r.st, .int .i64 r.k, .string r.key, .float .f64 r.b, .int .i64 r.id].toArray 41 (0, 0))
theorem OpAt.cells {w : World} {b : Nat} {r : Rq} (h : OpAt w b r) : w.cell? ⟨b, 0, none⟩ = some (.int .i64 r.k) ∧ w.cell? ⟨b, 1, none⟩ = some (.string r.key) ∧ w.cell? ⟨b, 2, none⟩ = some (.float .f64 r.b) ∧ w.cell? ⟨b, 3, none⟩ = some (.int .i64 r.id) :=
 ⟨cell_at h 0 _ rfl, cell_at h 1 _ rfl, cell_at h 2 _ rfl, cell_at h 3 _ rfl⟩
theorem RqAt.cells {w : World} {b : Nat} {r : Rq} (h : RqAt w b r) : (w.cell? ⟨b, 0, none⟩ = some (.int .i64 r.c) ∧ w.cell? ⟨b, 1, none⟩ = some (.int .i64 r.st)) ∧ w.cell? ⟨b, 2, none⟩ = some (.int .i64 r.k) ∧ w.cell? ⟨b, 3, none⟩ = some (.string r.key) ∧ w.cell? ⟨b, 4, none⟩ = some (.float .f64 r.b) ∧ w.cell? ⟨b, 5, none⟩ = some (.int .i64 r.id) :=
 ⟨⟨cell_at h 0 _ rfl, cell_at h 1 _ rfl⟩, cell_at h 2 _ rfl, cell_at h 3 _ rfl, cell_at h 4 _ rfl, cell_at h 5 _ rfl⟩
theorem RqAt.keep {w w' : World} {b : Nat} {r : Rq} (h : RqAt w b r) (hb : Below w.heap.size w w') : RqAt w' b r := (hb.block b (lt_of_blk h)).trans h
end
section
open Go.RowKit
structure One (b : Nat) (w w' : World) : Prop where
 os : w'.os = w.os
 tape : w'.tape = w.tape
 output : w'.output = w.output
 size : w'.heap.size = w.heap.size
 block : ∀ k, k ≠ b → w'.heap[k]? = w.heap[k]?
theorem one_cells (b : Nat) : ∀ (vs : List Value) (o : Nat) (w : World), One b w (w.setCells b o vs)
 | [], _, _ => ⟨rfl, rfl, rfl, rfl, fun _ _ => rfl⟩
 | v :: vs, o, w => by
   have h := one_cells b vs (o + 1) (w.setCell ⟨b, o, none⟩ v)
   exact ⟨h.os, h.tape, h.output, h.size.trans (by simp [World.setCell]), fun k hk => (h.block k hk).trans (Below.heap_setCell _ _ _ _ hk)⟩
theorem One.below {b B : Nat} {x w w' : World} (h : One b w w') (hb : Below B x w) (hB : B ≤ b) : Below B x w' :=
 ⟨h.os.trans hb.os, h.tape.trans hb.tape, h.output.trans hb.output, by rw [h.size]; exact hb.size, fun k hk => (h.block k (by omega)).trans (hb.block k hk)⟩
theorem rq_all {w : World} {b : Nat} {r0 r : Rq} (h : RqAt w b r0) : RqAt (w.setCells b 0 [.int .i64 r.c, .int .i64 r.st, .int .i64 r.k, .string r.key, .float .f64 r.b, .int .i64 r.id]) b r := by
 have h0 := blk_set h 0 (.int .i64 r.c)
 have h1 := blk_set h0 1 (.int .i64 r.st)
 have h2 := blk_set h1 2 (.int .i64 r.k)
 have h3 := blk_set h2 3 (.string r.key)
 have h4 := blk_set h3 4 (.float .f64 r.b)
 have h5 := blk_set h4 5 (.int .i64 r.id)
 exact h5.trans (by simp)
theorem rq_there {w : World} {b : Nat} {r0 : Rq} (h : RqAt w b r0) : w.there b 0 6 := fun j hj => by
 obtain ⟨⟨z0, z1⟩, z2, z3, z4, z5⟩ := h.cells
 refine ⟨?_, free_at h _⟩
 rw [Nat.zero_add]
 match j, hj with
 | 0, _ => rw [z0]; rfl
 | 1, _ => rw [z1]; rfl
 | 2, _ => rw [z2]; rfl
 | 3, _ => rw [z3]; rfl
 | 4, _ => rw [z4]; rfl
 | 5, _ => rw [z5]; rfl
def RsAt (w : World) (b : Nat) (c : Int) (f : Nat) : Prop := w.heap[b]? = some (.cells [.int .i64 c, .float .f64 f].toArray 43 (0, 0))
theorem RsAt.cells {w : World} {b : Nat} {c : Int} {f : Nat} (h : RsAt w b c f) : w.cell? ⟨b, 0, none⟩ = some (.int .i64 c) ∧ w.cell? ⟨b, 1, none⟩ = some (.float .f64 f) := ⟨cell_at h 0 _ rfl, cell_at h 1 _ rfl⟩
theorem RsAt.keep {w w' : World} {b : Nat} {c : Int} {f : Nat} (h : RsAt w b c f) (hb : Below w.heap.size w w') : RsAt w' b c f := (hb.block b (lt_of_blk h)).trans h
theorem rs_all {w : World} {b : Nat} {c0 c : Int} {f0 f : Nat} (h : RsAt w b c0 f0) : RsAt (w.setCells b 0 [.int .i64 c, .float .f64 f]) b c f := by
 have h0 := blk_set h 0 (.int .i64 c)
 have h1 := blk_set h0 1 (.float .f64 f)
 exact h1.trans (by simp)
theorem rs_there {w : World} {b : Nat} {c : Int} {f : Nat} (h : RsAt w b c f) : w.there b 0 2 := fun j hj => by
 obtain ⟨z0, z1⟩ := h.cells
 refine ⟨?_, free_at h _⟩
 rw [Nat.zero_add]
 match j, hj with
 | 0, _ => rw [z0]; rfl
 | 1, _ => rw [z1]; rfl
section
variable {P : Program} {o : Oper} {a : Act} {w : World} {Q : Exit → Act → World → Prop} {ops : Array Oper} {rest : List Oper}
theorem wl_store_rq (hgd : o.guard = none) (p x : Operand) (ho : o.op = .store 41 p x) (b : Nat) (hp : a.eval p = .pointer (some ⟨b, 0, none⟩)) (r0 r : Rq) (hx : a.eval x = .agg #[.int .i64 r.c, .int .i64 r.st, .int .i64 r.k, .string r.key, .float .f64 r.b, .int .i64 r.id]) (hR : RqAt w b r0)
   (h : ∀ w', Hid (RqAt w' b r ∧ One b w w') → wpList Tryz.prog ops Q rest (a.put o.dst undef) w') : wpList Tryz.prog ops Q (o :: rest) a w :=
 wpList_store_mid (P := Tryz.prog) hgd 41 p x ho b 0 #[.int .i64 r.c, .int .i64 r.st, .int .i64 r.k, .string r.key, .float .f64 r.b, .int .i64 r.id] hp hx (rq_there hR) (by kernel_rfl) (by simp [Value.oneCell']) (h _ ⟨rq_all hR, one_cells b _ 0 w⟩)
theorem wl_store_rs (hgd : o.guard = none) (p x : Operand) (ho : o.op = .store 43 p x) (b : Nat) (hp : a.eval p = .pointer (some ⟨b, 0, none⟩)) (c0 c : Int) (f0 f : Nat) (hx : a.eval x = .agg #[.int .i64 c, .float .f64 f]) (hR : RsAt w b c0 f0)
   (h : ∀ w', Hid (RsAt w' b c f ∧ One b w w') → wpList Tryz.prog ops Q rest (a.put o.dst undef) w') : wpList Tryz.prog ops Q (o :: rest) a w :=
 wpList_store_mid (P := Tryz.prog) hgd 43 p x ho b 0 #[.int .i64 c, .float .f64 f] hp hx (rs_there hR) (by kernel_rfl) (by simp [Value.oneCell']) (h _ ⟨rs_all hR, one_cells b _ 0 w⟩)
theorem wl_store_f (hgd : o.guard = none) (p x : Operand) (ho : o.op = .store 37 p x) (b off : Nat) (hp : a.eval p = .pointer (some ⟨b, off, none⟩)) (f : Nat) (hx : a.eval x = .float .f64 f) (v : Value) (hc : w.cell? ⟨b, off, none⟩ = some v) (hf : w.frozen? ⟨b, off, none⟩ = false)
   (h : wpList Tryz.prog ops Q rest (a.put o.dst undef) (w.setCell ⟨b, off, none⟩ (.float .f64 f))) : wpList Tryz.prog ops Q (o :: rest) a w := by
 refine wpList_plain hgd fun K hK => owp_skip (w' := w.setCell ⟨b, off, none⟩ (.float .f64 f)) ?_ (hK _ _ h)
 have hi : (Tryz.prog.info? 37).map (·.size) = some 1 := by kernel_rfl
 have hr := run_store Tryz.prog w ⟨b, off, none⟩ (.float .f64 f) .plain rfl
 rw [hc] at hr
 simp only [hf] at hr
 cases hq : Tryz.prog.info? 37 with
 | none => simp [hq] at hi
 | some i =>
   have hs : i.size = 1 := by simp [hq] at hi; omega
   simp [execOp, ho, Instr.storeAt, Instr.sureAddr, hp, hx, storeVar, sizeOf, typeInfo, hq, hs, Value.cells, storeCells, Addr.add, hr, Result.andThen]
end
end
section
open Go.RowKit
def setAt : List Value → Nat → List Value → List Value
 | L, _, [] => L
 | L, o, v :: vs => setAt (L.set o v) (o + 1) vs
theorem blk_cells {b : Nat} {T : TypeId} : ∀ (vs : List Value) (o : Nat) (L : List Value) (w : World), w.heap[b]? = some (.cells L.toArray T (0, 0)) → (w.setCells b o vs).heap[b]? = some (.cells (setAt L o vs).toArray T (0, 0))
 | [], _, _, _, h => h
 | v :: vs, o, L, w, h => blk_cells vs (o + 1) (L.set o v) (w.setCell ⟨b, o, none⟩ v) (by have := blk_set h o v; simpa using this)
theorem blk_there {w : World} {b : Nat} {T : TypeId} {L : List Value} (h : w.heap[b]? = some (.cells L.toArray T (0, 0))) (o n : Nat) (hn : o + n ≤ L.length) : w.there b o n := fun j hj => by
 have hl : o + j < L.length := by omega
 exact ⟨by rw [cell_at h (o + j) _ (List.getElem?_eq_getElem hl)]; rfl, free_at h _⟩
section
variable {o : Oper} {a : Act} {w : World} {K : Act → World → Prop} {Q : Exit → Act → World → Prop} {ops : Array Oper} {rest : List Oper}
theorem owp_store_blk (T : TypeId) (p x : Operand) (ho : o.op = .store T p x) (b off : Nat) (hp : a.eval p = .pointer (some ⟨b, off, none⟩)) (cells : Array Value) (hx : a.eval x = .agg cells) (L : List Value) (TB : TypeId) (hL : w.heap[b]? = some (.cells L.toArray TB (0, 0))) (hn : off + cells.size ≤ L.length)
   (hi : (Tryz.prog.info? T).map (·.size) = some cells.size) (h1 : cells.all (·.oneCell') = true) (h : ∀ w', Hid (w'.heap[b]? = some (.cells (setAt L off cells.toList).toArray TB (0, 0)) ∧ One b w w') → K (a.put o.dst undef) w') : o.wp Tryz.prog a w K Q :=
 wp_store_mid (P := Tryz.prog) T p x ho b off cells hp hx (blk_there hL off _ hn) hi h1 (h _ ⟨blk_cells cells.toList off L w hL, one_cells b _ off w⟩)
theorem wl_store_blk (hgd : o.guard = none) (T : TypeId) (p x : Operand) (ho : o.op = .store T p x) (b off : Nat) (hp : a.eval p = .pointer (some ⟨b, off, none⟩)) (cells : Array Value) (hx : a.eval x = .agg cells) (L : List Value) (TB : TypeId) (hL : w.heap[b]? = some (.cells L.toArray TB (0, 0))) (hn : off + cells.size ≤ L.length)
   (hi : (Tryz.prog.info? T).map (·.size) = some cells.size) (h1 : cells.all (·.oneCell') = true) (h : ∀ w', Hid (w'.heap[b]? = some (.cells (setAt L off cells.toList).toArray TB (0, 0)) ∧ One b w w') → wpList Tryz.prog ops Q rest (a.put o.dst undef) w') : wpList Tryz.prog ops Q (o :: rest) a w :=
 wpList_plain hgd fun _ hK => owp_store_blk T p x ho b off hp cells hx L TB hL hn hi h1 (fun w' hw => hK _ _ (h w' hw))
end
end
section
open Go.RowKit
def BxAt (w : World) (b : Nat) (L : List Value) (T : TypeId) : Prop := w.heap[b]? = some (.cells L.toArray T (0, 0))
theorem BxAt.keep {w w' : World} {b : Nat} {L : List Value} {T : TypeId} (h : BxAt w b L T) (hb : Below w.heap.size w w') : BxAt w' b L T := (hb.block b (lt_of_blk h)).trans h
theorem BxAt.cell {w : World} {b : Nat} {L : List Value} {T : TypeId} (h : BxAt w b L T) (j : Nat) (v : Value) (hv : L[j]? = some v) : w.cell? ⟨b, j, none⟩ = some v := cell_at h j v hv
theorem BxAt.cls {w : World} {b : Nat} {L : List Value} {T : TypeId} (h : BxAt w b L T) (j : Nat) (v : Value) (hv : L[j]? = some v) (cx : Cls w) : cx.1.cell? ⟨b, j, none⟩ = some v := (cx.2.cell (p := ⟨b, j, none⟩) (lt_of_blk h)).trans (h.cell j v hv)
def ctC (c : Ct) (v : Value) : List Value := [.int .i64 c.1, .int .i64 c.2.1, .int .i64 c.2.2.1.c, .int .i64 c.2.2.1.st, .int .i64 c.2.2.1.k, .string c.2.2.1.key, .float .f64 c.2.2.1.b, .int .i64 c.2.2.1.id, v]
def cgC (c : Cg) (v : Value) : List Value := [.int .i64 c.1, .int .i64 c.2.1, v, .int .i64 c.2.2.2.1, .string c.2.2.2.2]
theorem ct_at {F : Nat → Prop} {w : World} {v : Value} {l : List Ct} (h : Reads F w v (dCts l)) (j : Nat) (hj : j < l.length) :
   ∃ g off cap a k, v = .slice (some ⟨g, off, none⟩) l.length cap ∧ PairsIn w a (l.getD j ct0).2.2.2 ∧ g < w.heap.size ∧ ∀ (q : Nat) (u : Value), (ctC (l.getD j ct0) (.slice a (l.getD j ct0).2.2.2.length k))[q]? = some u → w.cell? ⟨g, off + j * 9 + q, none⟩ = some u := by
 have hx : (l.map dCt)[j]? = some (dCt (l.getD j ct0)) := by rw [List.getElem?_map]; simp [hj]
 obtain ⟨g, off, cap, hv, _, hg, _, hc⟩ := h.at j _ hx
 obtain ⟨u8, k8, r8⟩ := hc 8 _ rfl
 obtain ⟨a, k, rfl, hp, _⟩ := reads_pairs r8
 rw [List.length_map] at hv
 refine ⟨g, off, cap, a, k, hv, hp, hg, fun q u hq => ?_⟩
 match q, hq with
 | 0, hq => obtain ⟨x, k0, r0⟩ := hc 0 _ rfl; rw [r0.int] at k0; cases hq; exact k0
 | 1, hq => obtain ⟨x, k0, r0⟩ := hc 1 _ rfl; rw [r0.int] at k0; cases hq; exact k0
 | 2, hq => obtain ⟨x, k0, r0⟩ := hc 2 _ rfl; rw [r0.int] at k0; cases hq; exact k0
 | 3, hq => obtain ⟨x, k0, r0⟩ := hc 3 _ rfl; rw [r0.int] at k0; cases hq; exact k0
 | 4, hq => obtain ⟨x, k0, r0⟩ := hc 4 _ rfl; rw [r0.int] at k0; cases hq; exact k0
 | 5, hq => obtain ⟨x, k0, r0⟩ := hc 5 _ rfl; rw [r0.str] at k0; cases hq; exact k0
 | 6, hq => obtain ⟨x, k0, r0⟩ := hc 6 _ rfl; rw [r0.flt] at k0; cases hq; exact k0
 | 7, hq => obtain ⟨x, k0, r0⟩ := hc 7 _ rfl; rw [r0.int] at k0; cases hq; exact k0
 | 8, hq => cases hq; exact k8
 | q + 9, hq => cases hq
theorem cg_at {F : Nat → Prop} {w : World} {v : Value} {l : List Cg} (h : Reads F w v (dCgs l)) (j : Nat) (hj : j < l.length) :
   ∃ g off cap a n k, v = .slice (some ⟨g, off, none⟩) l.length cap ∧ Reads F w (.slice a n k) (dCts (l.getD j cg0).2.2.1) ∧ g < w.heap.size ∧ ∀ (q : Nat) (u : Value), (cgC (l.getD j cg0) (.slice a n k))[q]? = some u → w.cell? ⟨g, off + j * 5 + q, none⟩ = some u := by
 have hx : (l.map dCg)[j]? = some (dCg (l.getD j cg0)) := by rw [List.getElem?_map]; simp [hj]
 obtain ⟨g, off, cap, hv, _, hg, _, hc⟩ := h.at j _ hx
 obtain ⟨u2, k2, r2⟩ := hc 2 _ rfl
 obtain ⟨a, k, hu⟩ := Reads.form r2
 subst hu
 rw [List.length_map] at hv
 refine ⟨g, off, cap, a, _, k, hv, r2, hg, fun q u hq => ?_⟩
 match q, hq with
 | 0, hq => obtain ⟨x, k0, r0⟩ := hc 0 _ rfl; rw [r0.int] at k0; cases hq; exact k0
 | 1, hq => obtain ⟨x, k0, r0⟩ := hc 1 _ rfl; rw [r0.int] at k0; cases hq; exact k0
 | 2, hq => cases hq; exact k2
 | 3, hq => obtain ⟨x, k0, r0⟩ := hc 3 _ rfl; rw [r0.int] at k0; cases hq; exact k0
 | 4, hq => obtain ⟨x, k0, r0⟩ := hc 4 _ rfl; rw [r0.str] at k0; cases hq; exact k0
 | q + 5, hq => cases hq
theorem heap_lt {w : World} {k : Nat} {o : Obj} (h : w.heap[k]? = some o) : k < w.heap.size := by
 rcases Nat.lt_or_ge k w.heap.size with h1 | h1
 · exact h1
 · rw [Array.getElem?_eq_none h1] at h; cases h
theorem inR_of {s : Nat} {z : Int} (h0 : 0 ≤ z) (h1 : z < ((256 ^ s : Nat) : Int)) : inR s z = true := decide_eq_true ⟨h0, h1⟩
theorem flat_snoc {α : Type} {f : α → List UInt8} {l : List α} {d : α} (j : Nat) (hj : j < l.length) : (l.take j).flatMap f ++ f (l.getD j d) = (l.take (j + 1)).flatMap f := by
 rw [List.take_succ_eq_append_getElem hj, List.flatMap_append]
 simp [hj]
end
section
open Go.RowKit
section
variable {P : Program} {ops : Array Oper} {Q : Exit → Act → World → Prop} {md : Region.Mode} {S : World → Prop} {ex : List Nat}
def reachB (md : Region.Mode) (ops : Array Oper) : Nat → Nat → Nat → Bool
 | 0, _, _ => false
 | n + 1, k, i => match ops[k]? with
   | none => false
   | some o => o.after.any fun e => Region.binds md e && (e.on == i || reachB md ops n e.on i)
def Closed (md : Region.Mode) (ops : Array Oper) (listed : Array Bool) : Prop := ∀ (j : Nat) (o : Oper), ops[j]? = some o → listed.getD j false = true → ∀ e ∈ o.after, Region.binds md e = true → listed.getD e.on false = true
def closedB (md : Region.Mode) (ops : Array Oper) (listed : Array Bool) : Bool := (List.range ops.size).all fun j => !(listed.getD j false) || match ops[j]? with
 | none => true
 | some o => o.after.all fun e => !(Region.binds md e) || listed.getD e.on false
theorem closed_of {listed : Array Bool} (h : closedB md ops listed = true) : Closed md ops listed := fun j o ho hl e he hb => by
 have hj : j < ops.size := (Array.getElem?_eq_some_iff.1 ho).1
 have h1 := List.all_eq_true.1 h j (List.mem_range.2 hj)
 simp only [hl, ho, Bool.not_true, Bool.false_or] at h1
 have h2 := Array.all_eq_true_iff_forall_mem.1 h1 e he
 simpa [hb] using h2
theorem reach_listed {listed : Array Bool} (hc : Closed md ops listed) {i : Nat} : ∀ (n k : Nat), reachB md ops n k i = true → (∀ o, ops[k]? = some o → ∀ e ∈ o.after, Region.binds md e = true → listed.getD e.on false = true) → listed.getD i false = true
 | 0, _, h, _ => by simp [reachB] at h
 | n + 1, k, h, hk => by
   rw [reachB] at h
   cases ho : ops[k]? with
   | none => rw [ho] at h; cases h
   | some o =>
     rw [ho] at h
     obtain ⟨q, hq, h1⟩ := Array.any_eq_true.1 h
     have he := Array.getElem_mem hq
     generalize o.after[q] = e at he h1
     rw [Bool.and_eq_true, Bool.or_eq_true] at h1
     have hl := hk o ho e he h1.1
     rcases h1.2 with h2 | h2
     · rw [beq_iff_eq] at h2
       rw [← h2]
       exact hl
     · exact reach_listed hc n e.on h2 (fun o' ho' e' he' hb' => hc e.on o' ho' hl e' he' hb')
theorem closed_step {listed : Array Bool} (hc : Closed md ops listed) {j : Nat} (hj : j ∈ Region.ready md ops listed) : Closed md ops (listed.setIfInBounds j true) := fun k o ho hl e he hb => by
 by_cases hkj : j = k
 · subst hkj
   obtain ⟨_, o', ho', hall⟩ := mem_ready.1 hj
   rw [ho] at ho'
   cases ho'
   exact getD_set_true (hall e he hb)
 · rw [getD_set_ne false hkj] at hl
   exact getD_set_true (hc k o ho hl e he hb)
def wpAnyG (P : Program) (md : Region.Mode) (ops : Array Oper) (Q : Exit → Act → World → Prop) (S : World → Prop) (ex : List Nat) : Nat → Array Bool → Act → World → Prop
 | 0, listed, a, w => Region.ready md ops listed = [] ∧ Q .normal a w
 | fuel + 1, listed, a, w =>
   (Region.ready md ops listed = [] → Q .normal a w) ∧
   ∀ i ∈ Region.ready md ops listed, wpOp P ops Q i (fun a' w' => (i ∉ ex → S w') ∧ wpAnyG P md ops Q S ex fuel (listed.setIfInBounds i true) a' w') a w
theorem wpAny_of_G : ∀ (fuel : Nat) (listed : Array Bool) (a : Act) (w : World), wpAnyG P md ops Q S ex fuel listed a w → wpAny P md ops Q fuel listed a w
 | 0, _, _, _, h => h
 | fuel + 1, _, _, _, h => ⟨h.1, fun i hi => wpOp_mono (fun a' w' h' => wpAny_of_G fuel _ a' w' h'.2) (h.2 i hi)⟩
theorem wpAnyG_first {i : Nat} {oi : Oper} {v : Value} (hi : ops[i]? = some oi) (hsel : ∀ (j : Nat) (o : Oper) cs b, ops[j]? = some o → o.op ≠ .select cs b)
   (hQ : ∀ c a w, Q (.panic c) (a.put oi.dst v) w → Q (.panic c) a w) (N : Nat) (hex : ∀ k, k ∈ ex → reachB md ops N k i = true) :
   ∀ (fuel : Nat) (listed : Array Bool) (a : Act) (w : World), Closed md ops listed →
     (∀ j oj, ops[j]? = some oj → j ≠ i → listed.getD j true = false → (∀ e ∈ oj.after, Region.binds md e = true → e.on ≠ i) → oi.apart ops oj = true) →
     i ∈ Region.ready md ops listed → YieldsIf P ops S oi v a → S w →
     wpAnyG P md ops Q S ex fuel (listed.setIfInBounds i true) (a.put oi.dst v) w → wpAnyG P md ops Q S ex (fuel + 1) listed a w := by
 intro fuel
 induction fuel with
 | zero =>
   intro listed a w _ _ hr hy hS H
   refine ⟨fun h => (by rw [h] at hr; cases hr), fun j hj => ?_⟩
   by_cases hji : j = i
   · subst hji; exact hy.wpOp hi hS ⟨fun _ => hS, H⟩
   · have := ready_mono hj hji
     rw [H.1] at this
     cases this
 | succ fuel ih =>
   intro listed a w hcl hfree hr hy hS H
   refine ⟨fun h => (by rw [h] at hr; cases hr), fun j hj => ?_⟩
   by_cases hji : j = i
   · subst hji; exact hy.wpOp hi hS ⟨fun _ => hS, H⟩
   · have h1 := H.2 j (ready_mono hj hji)
     obtain ⟨hjun, oj, hoj, hall⟩ := mem_ready.1 hj
     have hun := (mem_ready.1 hr).1
     have hnex : j ∉ ex := fun hje => by
       have hl := reach_listed hcl N j (hex j hje) (fun o ho e he hb => by rw [hoj] at ho; cases ho; exact hall e he hb)
       rcases Nat.lt_or_ge i listed.size with h' | h'
       · simp [h'] at hun hl; rw [hun] at hl; cases hl
       · simp [Array.getElem?_eq_none h'] at hl
     have hnot : ∀ e ∈ oj.after, Region.binds md e = true → e.on ≠ i := fun e he hb heq => by
       have h1 := hall e he hb
       rw [heq] at h1
       rcases Nat.lt_or_ge i listed.size with h' | h'
       · simp [h'] at hun h1; rw [hun] at h1; cases h1
       · simp [Array.getElem?_eq_none h'] at h1
     have h2 := wpOp_putIf hoj (hfree j oj hoj hji hjun hnot) (fun cs b => hsel i oi cs b hi) (fun cs b => hsel j oj cs b hoj) hQ hy h1
     have hfree' : ∀ k ok, ops[k]? = some ok → k ≠ i → (listed.setIfInBounds j true).getD k true = false →
         (∀ e ∈ ok.after, Region.binds md e = true → e.on ≠ i) → oi.apart ops ok = true := fun k ok hk hki hun hno => by
       refine hfree k ok hk hki ?_ hno
       by_cases hjk : j = k
       · subst hjk; exact hjun
       · rw [getD_set_ne true hjk] at hun; exact hun
     refine wpOp_mono (fun a' w' h3 => ⟨h3.2.1, ih (listed.setIfInBounds j true) a' w' (closed_step hcl hj) hfree' (ready_mono hr (Ne.symm hji)) h3.1 (h3.2.1 hnex) ?_⟩) h2
     rw [Array.setIfInBounds_comm _ _ hji]
     exact h3.2.2
theorem wpAnyG_take {i : Nat} {oi : Oper} {v : Value} {fuel : Nat} {listed : Array Bool} {a : Act} {w : World} (hi : ops[i]? = some oi)
   (hb : (Region.noSelect ops && (Region.free md ops listed i && ((Region.ready md ops listed).contains i && (closedB md ops listed && ex.all fun k => reachB md ops ops.size k i)))) = true)
   (hQ : ∀ c a w, Q (.panic c) (a.put oi.dst v) w → Q (.panic c) a w) (hy : YieldsIf P ops S oi v a) (hS : S w)
   (h : wpAnyG P md ops Q S ex fuel (listed.setIfInBounds i true) (a.put oi.dst v) w) : wpAnyG P md ops Q S ex (fuel + 1) listed a w := by
 simp only [Bool.and_eq_true] at hb
 obtain ⟨hs, hf, hr, hc, he⟩ := hb
 exact wpAnyG_first hi (Region.noSelect_spec hs) hQ ops.size (fun k hk => List.all_eq_true.1 he k hk) fuel listed a w (closed_of hc) (Region.free_spec hi hf) (by simpa using hr) hy hS h
theorem wpAnyG_all {rs : List Nat} {fuel : Nat} {listed : Array Bool} {a : Act} {w : World} (hr : Region.ready md ops listed = rs) (hne : rs ≠ [])
   (h : ∀ i ∈ rs, wpOp P ops Q i (fun a' w' => (i ∉ ex → S w') ∧ wpAnyG P md ops Q S ex fuel (listed.setIfInBounds i true) a' w') a w) : wpAnyG P md ops Q S ex (fuel + 1) listed a w :=
 ⟨fun h0 => absurd (hr ▸ h0) hne, hr ▸ h⟩
theorem wpAnyG_done {listed : Array Bool} {a : Act} {w : World} (hr : Region.ready md ops listed = []) (h : Q .normal a w) :
   ∀ fuel, wpAnyG P md ops Q S ex fuel listed a w
 | 0 => ⟨hr, h⟩
 | _ + 1 => ⟨fun _ => h, by rw [hr]; simp⟩
theorem wp_region_G {id : Nat} {a : Act} {w : World} (hm : P.follows .mixedOrders = true)
   (h : wpAnyG P .any ops Q S ex ops.size (Array.replicate ops.size false) a { w with drawn := w.drawn + 1 }) : (Code.region id ops true).wp P Q a w :=
 wp_region_any hm (wpAny_of_G _ _ _ _ h)
end
end
end Go.Proofs.YtoepppkadpjonaaGreat
