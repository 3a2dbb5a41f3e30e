/- Texts laid together: MwT TxA DsD DsE DsF DsG DsH DtB PwA DtC CoN CoM CoV DtD DtE. -/
import Derived.Test.YtohhlolmojeomaaKb1
import Derived.Test.YtohhlolmojeomaaKa1
import Derived.Test.YtohhlolmojeomaaKc1
import Derived.Deep.QuietTactic
/- The contracts of the document's writer: texts. -/
namespace Go.Proofs.Ytohhlolmojeomaa
open Go.RowKit

set_option maxRecDepth 100000 in
set_option maxHeartbeats 1600000 in
theorem mtext_in (c : Nat) (v : Value) (lim : Int) (l : List UInt8) (er : Int) (s : ByteArray) (w : World) (h : MwAt w c v lim l er)
    (h0 : 0 ≤ lim) (h1 : lim ≤ 9223372036854775807) (hl : l.length + (s.size + 10) ≤ 140737488355328) (hs : s.size ≤ 65535) (E : Int) (hE : adm lim l.length er true (2 + s.size : Nat) = E) (L : List UInt8) (hL : (if E = 0 then l ++ (be 2 s.size ++ s.data.toList) else l) = L) :
    Calls Try.prog 56 #[.pointer (some ⟨c, 0, none⟩), .string s] w fun e w' => e = .returned (.tuple #[]) ∧ ∃ v', MwAt w' c v' lim L E ∧ Kept c v.ownBlock w w' ∧ Moved w v v' := by
  obtain ⟨i0, hi0, hz0, hz1, hz2⟩ := info_parts Try.info5
  have HH := hid h
  have HC := hid (big_any s.size 2 w (by omega) (by omega))
  have HL := hid hL
  have HE := hid hE
  have hsi : (s.size : Int) ≤ 65535 := by omega
  have hd : s.data.toList.length = s.size := by rw [Array.length_toList]; rfl
  have HD := hid hd
  clear h hL hE hd hs
  go_enter Try.func56, Try.ntmps56
  go_wp2_with fail
  refine HC.out.mono ?_
  rintro e w1 ⟨rfl, hb1, hbel⟩
  have ho : w1.ownsRow w.heap.size 5 1 (.slice (some ⟨w.heap.size, 0, none⟩) 2 2) 2 (bC (be 2 s.size)) :=
    ⟨by rw [bC_len, be_len], .inr ⟨w.heap.size, 2, _, rfl, Nat.le_refl _, hb1, Nat.le_refl _, by decide, by simp [bC_len, be_len], by rw [List.toList_toArray, List.take_of_length_le (by rw [bC_len, be_len]; decide)]⟩⟩
  have HB := hid hbel
  have hz := hbel.size
  clear hb1 hbel
  go_wp2_with (at_builtin; refine wpList_append_str _ rfl _ _ rfl w.heap.size i0 hi0 hz0 hz1 hz2 _ 2 (bC (be 2 s.size)) rfl ho s rfl (by omega) hz ?_)
  intro v2 w2 hown2 hgrow hat
  obtain ⟨g, cap, hv2, hg2, -⟩ := hown2.form (by omega)
  have hbel2 : Below w.heap.size w w2 := HB.out.grown hgrow hz (fun k hk => by simp [Value.ownBlock] at hk; omega)
  have hsrc : ∀ j u, (bC (be 2 s.size ++ s.data.toList))[j]? = some u → w2.cell? ⟨g, j, none⟩ = some u := by
    intro j u hj
    rw [bC_app] at hj
    have := hown2.cells (g := g) (by rw [hv2]; rfl) j u hj
    rwa [Addr.add_lit, Nat.zero_add] at this
  have HP := hid (mput_len c v lim l er g cap (be 2 s.size ++ s.data.toList) (2 + s.size) (by rw [List.length_append, be_len, HD.out]) w2 (HH.out.above hbel2) h0 h1 (by omega) hsrc)
  rw [HE.out, HL.out] at HP
  have HK := hid (show Kept c v.ownBlock w w2 from ⟨hbel2.os, hbel2.tape, hbel2.output, hbel2.size, fun j hj _ _ => hbel2.block j hj⟩)
  rw [hv2]
  clear hown2 hgrow hat hbel2 hsrc hv2 ho
  go_wp2_with fail
  refine HP.out.mono ?_
  rintro e w3 ⟨rfl, v3, hx3, hk3, hm3⟩
  have H3 := hid (And.intro hx3 (And.intro (HK.out.trans hk3 (.inl rfl)) ((Moved.refl w v).trans hm3 HK.out.size)))
  clear hx3 hk3 hm3
  go_wp2
  go_end0
  exact ⟨rfl, v3, H3.out⟩

set_option maxHeartbeats 800000 in
theorem mtext_out (c : Nat) (v : Value) (lim : Int) (l : List UInt8) (er : Int) (s : ByteArray) (w : World) (h : MwAt w c v lim l er) (hs : (65535 : Int) < s.size) (E : Int) (hE : adm lim l.length er false (2 + s.size) = E) :
    Calls Try.prog 56 #[.pointer (some ⟨c, 0, none⟩), .string s] w fun e w' => e = .returned (.tuple #[]) ∧ ∃ v', MwAt w' c v' lim l E ∧ Kept c v.ownBlock w w' ∧ Moved w v v' := by
  have HC := hid (mput_bad c v lim l er (2 + s.size) w h)
  rw [hE] at HC
  clear h hE
  go_enter Try.func56, Try.ntmps56
  go_wp2_with fail
  refine HC.out.mono ?_
  rintro e w1 ⟨rfl, hx1, hk1⟩
  have H1 := hid (And.intro hx1 (kept_none (r := v.ownBlock) hk1))
  clear hx1 hk1
  go_wp2
  first | go_end0 | refine bodyPost_ret (results_none rfl _ _ _) rfl ?_
  exact ⟨rfl, v, H1.out.1, H1.out.2, Moved.refl _ _⟩

theorem mtext_w (c : Nat) (v : Value) (lim : Int) (l : List UInt8) (er : Int) (s : ByteArray) (w : World) (h : MwAt w c v lim l er)
    (h0 : 0 ≤ lim) (h1 : lim ≤ 9223372036854775807) (hl : l.length + (s.size + 10) ≤ 140737488355328) :
    Calls Try.prog 56 #[.pointer (some ⟨c, 0, none⟩), .string s] w fun e w' => e = .returned (.tuple #[]) ∧ ∃ v', MwAt w' c v' lim (xL lim l er s) (xE lim l er s) ∧ Kept c v.ownBlock w w' ∧ Moved w v v' := by
  by_cases hs : s.size ≤ 65535
  · have e : xE lim l er s = adm lim l.length er true (2 + s.size : Nat) := by simp [xE, hs]
    exact mtext_in c v lim l er s w h h0 h1 hl hs _ e.symm _ rfl
  · have e : xE lim l er s = adm lim l.length er false (2 + s.size) := by simp [xE, hs]
    have hd : ¬ xE lim l er s = 0 := by rw [e]; unfold adm; split <;> simp_all
    rw [xL, if_neg hd]
    exact mtext_out c v lim l er s w h (by omega) _ e.symm
end Go.Proofs.Ytohhlolmojeomaa

/- The document's writer, as the walks of its users see it: what lies in it, numbers, bits, texts put to it, its end. -/
namespace Go.Proofs.Ytohhlolmojeomaa
open Go.RowKit

/-- The document's writer at block c, with room for lim, and l in it; nothing below c has turned since w0. -/
def TxAt (lim : Int) (c : Nat) (w0 w : World) (l : List UInt8) : Prop := (∃ v, MwAt w c v lim l 0) ∧ Below c w0 w
theorem wLx (lim : Int) (l : List UInt8) (s n : Nat) (hn : n < 256 ^ s) (hl : (l.length : Int) + s ≤ lim) : wL lim l 0 s (n : Int) = l ++ be s n ∧ wE lim l 0 s (n : Int) = 0 := by
  have h : adm lim l.length 0 (inR s (n : Int)) s = 0 := by
    have hi : inR s (n : Int) = true := by
      unfold inR
      exact decide_eq_true ⟨Int.natCast_nonneg _, by exact_mod_cast hn⟩
    rw [hi]
    unfold adm
    rw [if_pos rfl, if_pos rfl, if_neg (by omega)]
  exact ⟨by rw [wL, if_pos h, Int.toNat_natCast], by rw [wE, h]⟩
theorem txnum (lim : Int) (h0 : 0 ≤ lim) (h1 : lim ≤ 4294967296) (c : Nat) (w0 w : World) (l : List UInt8) (n s : Nat) (hs : s ≤ 4) (hn : n < 256 ^ s) (hl : (l.length : Int) + s ≤ lim) (h : TxAt lim c w0 w l) :
    Calls Try.prog 37 #[.pointer (some ⟨c, 0, none⟩), .int .i64 (n : Int), .int .i64 (s : Int)] w fun e w' => e = .returned (.tuple #[]) ∧ TxAt lim c w0 w' (l ++ be s n) := by
  obtain ⟨⟨v, hv⟩, hb⟩ := h
  refine (mnum_w c v lim l 0 n s hs w hv h0 (by omega) (by omega)).mono ?_
  rintro e w' ⟨rfl, v', h', hk, _⟩
  rw [(wLx lim l s n hn hl).1, (wLx lim l s n hn hl).2] at h'
  exact ⟨rfl, ⟨v', h'⟩, hb.trans (hk.below (Nat.le_of_lt hv.lt) (Nat.le_refl _) (fun g hg => by have := (hv.own.lt g hg).1; omega))⟩
theorem txnew (lim : Int) (h0 : 0 ≤ lim) (w : World) : Calls Try.prog 36 #[.int .i64 lim] w fun e w' => e = .returned (.pointer (some ⟨w.heap.size, 0, none⟩)) ∧ TxAt lim w.heap.size w w' [] := by
  refine (mnew_any lim w).mono ?_
  rintro e w' ⟨rfl, rfl⟩
  rw [show max lim 0 = lim by omega]
  exact ⟨rfl, ⟨_, ⟨heap_alloc_last w _, ⟨rfl, .inl ⟨rfl, rfl⟩⟩⟩⟩, (Below.refl _ _).alloc (Nat.le_refl _) _⟩
theorem xLx (lim : Int) (l : List UInt8) (s : ByteArray) (hs : s.size ≤ 65535) (hl : (l.length : Int) + (2 + s.size) ≤ lim) : xL lim l 0 s = l ++ (be 2 s.size ++ s.data.toList) ∧ xE lim l 0 s = 0 := by
  have h : xE lim l 0 s = 0 := by
    unfold xE adm
    rw [if_pos rfl, decide_eq_true hs, if_pos rfl, if_neg (by omega)]
  exact ⟨by rw [xL, if_pos h], h⟩
theorem txtext (lim : Int) (h0 : 0 ≤ lim) (h1 : lim ≤ 4294967296) (c : Nat) (w0 w : World) (l : List UInt8) (s : ByteArray) (hs : s.size ≤ 65535) (hl : (l.length : Int) + (2 + s.size) ≤ lim) (h : TxAt lim c w0 w l) :
    Calls Try.prog 56 #[.pointer (some ⟨c, 0, none⟩), .string s] w fun e w' => e = .returned (.tuple #[]) ∧ TxAt lim c w0 w' (l ++ (be 2 s.size ++ s.data.toList)) := by
  obtain ⟨⟨v, hv⟩, hb⟩ := h
  refine (mtext_w c v lim l 0 s w hv h0 (by omega) (by omega)).mono ?_
  rintro e w' ⟨rfl, v', h', hk, _⟩
  rw [(xLx lim l s hs hl).1, (xLx lim l s hs hl).2] at h'
  exact ⟨rfl, ⟨v', h'⟩, hb.trans (hk.below (Nat.le_of_lt hv.lt) (Nat.le_refl _) (fun g hg => by have := (hv.own.lt g hg).1; omega))⟩
theorem bLx (lim : Int) (l : List UInt8) (n : Nat) (hl : (l.length : Int) + 8 ≤ lim) : bL lim l 0 n = l ++ be 8 n ∧ bE lim l 0 = 0 := by
  have h : bE lim l 0 = 0 := by
    unfold bE adm
    rw [if_pos rfl, if_pos rfl, if_neg (by omega)]
  exact ⟨by rw [bL, if_pos h], h⟩
theorem txbits (lim : Int) (h0 : 0 ≤ lim) (h1 : lim ≤ 4294967296) (c : Nat) (w0 w : World) (l : List UInt8) (n : Nat) (hn : n < 18446744073709551616) (hl : (l.length : Int) + 8 ≤ lim) (h : TxAt lim c w0 w l) :
    Calls Try.prog 57 #[.pointer (some ⟨c, 0, none⟩), .int .u64 (n : Int)] w fun e w' => e = .returned (.tuple #[]) ∧ TxAt lim c w0 w' (l ++ be 8 n) := by
  obtain ⟨⟨v, hv⟩, hb⟩ := h
  refine (mbits_w c v lim l 0 n w hv h0 (by omega) (by omega) hn).mono ?_
  rintro e w' ⟨rfl, v', h', hk, _⟩
  rw [(bLx lim l n hl).1, (bLx lim l n hl).2] at h'
  exact ⟨rfl, ⟨v', h'⟩, hb.trans (hk.below (Nat.le_of_lt hv.lt) (Nat.le_refl _) (fun g hg => by have := (hv.own.lt g hg).1; omega))⟩
theorem txdone (lim : Int) (c : Nat) (w0 w : World) (l : List UInt8) (h : TxAt lim c w0 w l) :
    Calls Try.prog 38 #[.pointer (some ⟨c, 0, none⟩)] w fun e w' => e = .returned (.tuple #[.string ⟨l.toArray⟩, .int .i64 0]) ∧ Below c w0 w' := by
  obtain ⟨⟨v, hv⟩, hb⟩ := h
  refine (mdone_ok c v lim l w hv).mono ?_
  rintro e w' ⟨rfl, rfl⟩
  exact ⟨rfl, hb⟩
/-- .. with whatever error. -/
def TeAt (lim : Int) (c : Nat) (w0 w : World) (l : List UInt8) (er : Int) : Prop := (∃ v, MwAt w c v lim l er) ∧ Below c w0 w
theorem TxAt.te {lim : Int} {c : Nat} {w0 w : World} {l : List UInt8} (h : TxAt lim c w0 w l) : TeAt lim c w0 w l 0 := h
theorem tenum (lim : Int) (h0 : 0 ≤ lim) (h1 : lim ≤ 4294967296) (c : Nat) (w0 w : World) (l : List UInt8) (er n : Int) (s : Nat) (hs : s ≤ 4) (hl : l.length ≤ 4294967296) (h : TeAt lim c w0 w l er) :
    Calls Try.prog 37 #[.pointer (some ⟨c, 0, none⟩), .int .i64 n, .int .i64 (s : Int)] w fun e w' => e = .returned (.tuple #[]) ∧ TeAt lim c w0 w' (wL lim l er s n) (wE lim l er s n) := by
  obtain ⟨⟨v, hv⟩, hb⟩ := h
  refine (mnum_w c v lim l er n s hs w hv h0 (by omega) (by omega)).mono ?_
  rintro e w' ⟨rfl, v', h', hk, _⟩
  exact ⟨rfl, ⟨v', h'⟩, hb.trans (hk.below (Nat.le_of_lt hv.lt) (Nat.le_refl _) (fun g hg => by have := (hv.own.lt g hg).1; omega))⟩
def teT (l : List UInt8) (er : Int) : ByteArray := if er = 0 then ⟨l.toArray⟩ else ⟨#[]⟩
theorem tedone (lim : Int) (c : Nat) (w0 w : World) (l : List UInt8) (er : Int) (h : TeAt lim c w0 w l er) :
    Calls Try.prog 38 #[.pointer (some ⟨c, 0, none⟩)] w fun e w' => e = .returned (.tuple #[.string (teT l er), .int .i64 er]) ∧ Below c w0 w' := by
  by_cases he : er = 0
  · subst he
    exact txdone lim c w0 w l h
  · obtain ⟨⟨v, hv⟩, hb⟩ := h
    rw [teT, if_neg he]
    refine (mdone_err c v lim l er w hv (by simpa using he)).mono ?_
    rintro e w' ⟨rfl, rfl⟩
    exact ⟨rfl, hb.drew⟩
end Go.Proofs.Ytohhlolmojeomaa

/- The document's text of a request. -/
namespace Go.Proofs.Ytohhlolmojeomaa
open Go.RowKit

theorem below_up {B C : Nat} {x y z : World} (h : Below B x y) (k : Below C y z) (hC : B ≤ C) (_hs : C ≤ y.heap.size) : Below B x z := h.trans (k.mono hC)
set_option maxRecDepth 100000 in
set_option maxHeartbeats 6400000 in
theorem qtext_any (r : Rq) (hb : r.b < 18446744073709551616) (w : World) : Calls Try.prog 35 #[.agg #[.int .i64 r.c, .int .i64 r.st, .int .i64 r.k, .string r.key, .float .f64 r.b, .int .i64 r.id]] w fun e w' => e = .returned (.tuple #[.string (rqT r), .int .i64 (rqE r)]) ∧ Below w.heap.size w w' := by
  have H0 : Hid (RqAt (w.alloc (.cells #[.int .i64 r.c, .int .i64 r.st, .int .i64 r.k, .string r.key, .float .f64 r.b, .int .i64 r.id] 43)) w.heap.size r ∧ Below w.heap.size w (w.alloc (.cells #[.int .i64 r.c, .int .i64 r.st, .int .i64 r.k, .string r.key, .float .f64 r.b, .int .i64 r.id] 43))) := hid ⟨heap_alloc_last w _, (Below.refl w.heap.size w).alloc (Nat.le_refl _) _⟩
  have HN : Hid (∀ X, nullB r = X → ∀ u, Calls Try.prog 54 #[.agg #[.int .i64 r.c, .int .i64 r.st, .int .i64 r.k, .string r.key, .float .f64 r.b, .int .i64 r.id]] u fun e w' => e = .returned (.bool X) ∧ Below u.heap.size u w') := hid (fun X hX u => by rw [← hX]; exact qnull_any r u)
  have HR : Hid (∀ X, rightB r = X → ∀ u, Calls Try.prog 55 #[.agg #[.int .i64 r.c, .int .i64 r.st, .int .i64 r.k, .string r.key, .float .f64 r.b, .int .i64 r.id]] u fun e w' => e = .returned (.bool X) ∧ Below u.heap.size u w') := hid (fun X hX u => by rw [← hX]; exact qright_any r u)
  cases hN : nullB r with
  | true =>
    rw [show rqT r = ⟨#[0]⟩ by rw [rqT, if_pos hN], show rqE r = 0 by rw [rqE, if_pos hN]]
    have HNb := hid (HN.out _ hN)
    clear hN hb
    go_enter Try.func35, Try.ntmps35
    go_wp2_with (go_at_call 54; refine (HNb.out _).mono ?_; rintro e w1 ⟨rfl, hb1⟩; have H1 := hid (And.intro (H0.out.1.keep hb1) (H0.out.2.trans (hb1.mono H0.out.2.size))); clear hb1; obtain ⟨⟨z0, z1⟩, z2, z3, z4, z5⟩ := H1.out.1.cells)
    go_ret2
    exact ⟨rfl, H1.out.2⟩
  | false =>
    have HNb := hid (HN.out _ hN)
    cases hR : rightB r with
    | false =>
      rw [show rqT r = ⟨#[]⟩ by rw [rqT, hN, hR]; rfl, show rqE r = 1 by rw [rqE, hN, hR]; rfl]
      have HRb := hid (HR.out _ hR)
      clear hN hR hb
      go_enter Try.func35, Try.ntmps35
      go_wp2_with (first
        | (go_at_call 54; refine (HNb.out _).mono ?_; rintro e w1 ⟨rfl, hb1⟩; have H1 := hid (And.intro (H0.out.1.keep hb1) (H0.out.2.trans (hb1.mono H0.out.2.size))); clear hb1; obtain ⟨⟨z0, z1⟩, z2, z3, z4, z5⟩ := H1.out.1.cells)
        | (go_at_call 55; refine (HRb.out _).mono ?_; rintro e w2 ⟨rfl, hb2⟩; have H2 := hid (And.intro (H1.out.1.keep hb2) (H1.out.2.trans (hb2.mono H1.out.2.size))); clear hb2 z0 z1 z2 z3 z4 z5; obtain ⟨⟨z0, z1⟩, z2, z3, z4, z5⟩ := H2.out.1.cells))
      go_ret2
      exact ⟨rfl, H2.out.2⟩
    | true =>
      rw [show rqT r = ⟨(rqL r).toArray⟩ by rw [rqT, hN, hR]; rfl, show rqE r = 0 by rw [rqE, hN, hR]; rfl]
      have HRb := hid (HR.out _ hR)
      obtain ⟨⟨c1, c2⟩, ⟨s1, s2⟩, ⟨k1, k2⟩, hk, i1, i2⟩ := right_fields hR
      have HZ := hid (And.intro hk (canW_lt hb))
      obtain ⟨C, eC⟩ : ∃ C : Nat, r.c = (C : Int) := ⟨r.c.toNat, by omega⟩
      obtain ⟨S, eS⟩ : ∃ S : Nat, r.st = (S : Int) := ⟨r.st.toNat, by omega⟩
      obtain ⟨N, eN⟩ : ∃ N : Nat, r.k = (N : Int) := ⟨r.k.toNat, by omega⟩
      obtain ⟨I, eI⟩ : ∃ I : Nat, r.id = (I : Int) := ⟨r.id.toNat, by omega⟩
      have HF : Hid ((C < 256 ∧ S < 4294967296 ∧ N < 256 ∧ I < 256) ∧ rqL r = be 1 1 ++ (be 1 C ++ (be 4 S ++ (be 1 N ++ (be 2 r.key.size ++ (r.key.data.toList ++ (be 8 (canW r.b) ++ be 1 I))))))) := hid ⟨by omega, by rw [rqL, eC, eS, eN, eI]; rfl⟩
      clear c1 c2 s1 s2 k1 k2 hk i1 i2 hN hR hb
      obtain ⟨c, st, k, key, b, id⟩ := r
      simp only at eC eS eN eI HF HZ H0 HN HR HNb HRb ⊢
      subst eC eS eN eI
      have HKB : Hid (∀ u, Calls Try.prog 44 #[.float .f64 b] u fun e w' => e = .returned (.int .u64 (canW b : Nat)) ∧ w' = u) := hid (fun u => kbits_any b u)
      generalize canW b = W8 at HF HZ HKB
      go_enter Try.func35, Try.ntmps35
      go_wp2_with (first
        | (go_at_call 54; refine (HNb.out _).mono ?_; rintro e w1 ⟨rfl, hb1⟩; have H1 := hid (And.intro (H0.out.1.keep hb1) (H0.out.2.trans (hb1.mono H0.out.2.size))); clear hb1; obtain ⟨⟨z0, z1⟩, z2, z3, z4, z5⟩ := H1.out.1.cells)
        | (go_at_call 55; refine (HRb.out _).mono ?_; rintro e w2 ⟨rfl, hb2⟩; have H2 := hid (And.intro (H1.out.1.keep hb2) (H1.out.2.trans (hb2.mono H1.out.2.size))); clear hb2 z0 z1 z2 z3 z4 z5; obtain ⟨⟨z0, z1⟩, z2, z3, z4, z5⟩ := H2.out.1.cells)
        | (go_at_call 36; refine (txnew 100 (by decide) _).mono ?_; rintro e w3 ⟨rfl, h3⟩; have T0 := hid h3; clear h3; have HQT0 : Hid (RqAt w3 w.heap.size ⟨C, S, N, key, b, I⟩) := hid (((T0.out.2).block _ (lt_of_blk H2.out.1)).trans H2.out.1); (try clear z0 z1 z2 z3 z4 z5); obtain ⟨⟨z0, z1⟩, z2, z3, z4, z5⟩ := HQT0.out.cells)
        | (go_at_call 37; have := T6; refine (txnum 100 (by decide) (by decide) _ _ _ ([] ++ be 1 1 ++ be 1 C ++ be 4 S ++ be 1 N ++ (be 2 key.size ++ key.data.toList) ++ be 8 W8) I 1 (by decide) (by have := HF.out.1.2.2.2; omega) (by have := HZ.out.1; simp only [List.length_append, List.length_nil, be_len]; (try rw [data_len]); omega) (by exact T6.out)).mono ?_; rintro e v6 ⟨rfl, h6⟩; have T7 := hid h6; clear h6; have HQT7 : Hid (RqAt v6 w.heap.size ⟨C, S, N, key, b, I⟩) := hid (((T7.out.2).block _ (lt_of_blk H2.out.1)).trans H2.out.1); (try clear z0 z1 z2 z3 z4 z5); obtain ⟨⟨z0, z1⟩, z2, z3, z4, z5⟩ := HQT7.out.cells)
        | (go_at_call 57; have := T5; refine (txbits 100 (by decide) (by decide) _ _ _ ([] ++ be 1 1 ++ be 1 C ++ be 4 S ++ be 1 N ++ (be 2 key.size ++ key.data.toList)) W8 HZ.out.2 (by have := HZ.out.1; simp only [List.length_append, List.length_nil, be_len]; (try rw [data_len]); omega) (by exact T5.out)).mono ?_; rintro e v5 ⟨rfl, h5⟩; have T6 := hid h5; clear h5; have HQT6 : Hid (RqAt v5 w.heap.size ⟨C, S, N, key, b, I⟩) := hid (((T6.out.2).block _ (lt_of_blk H2.out.1)).trans H2.out.1); (try clear z0 z1 z2 z3 z4 z5); obtain ⟨⟨z0, z1⟩, z2, z3, z4, z5⟩ := HQT6.out.cells)
        | (go_at_call 56; have := T4; refine (txtext 100 (by decide) (by decide) _ _ _ ([] ++ be 1 1 ++ be 1 C ++ be 4 S ++ be 1 N) key (by have := HZ.out.1; omega) (by have := HZ.out.1; simp only [List.length_append, List.length_nil, be_len]; (try rw [data_len]); omega) (by exact T4.out)).mono ?_; rintro e v4 ⟨rfl, h4⟩; have T5 := hid h4; clear h4; have HQT5 : Hid (RqAt v4 w.heap.size ⟨C, S, N, key, b, I⟩) := hid (((T5.out.2).block _ (lt_of_blk H2.out.1)).trans H2.out.1); (try clear z0 z1 z2 z3 z4 z5); obtain ⟨⟨z0, z1⟩, z2, z3, z4, z5⟩ := HQT5.out.cells)
        | (go_at_call 37; have := T3; refine (txnum 100 (by decide) (by decide) _ _ _ ([] ++ be 1 1 ++ be 1 C ++ be 4 S) N 1 (by decide) (by have := HF.out.1.2.2.1; omega) (by have := HZ.out.1; simp only [List.length_append, List.length_nil, be_len]; (try rw [data_len]); omega) (by exact T3.out)).mono ?_; rintro e v3 ⟨rfl, h3⟩; have T4 := hid h3; clear h3; have HQT4 : Hid (RqAt v3 w.heap.size ⟨C, S, N, key, b, I⟩) := hid (((T4.out.2).block _ (lt_of_blk H2.out.1)).trans H2.out.1); (try clear z0 z1 z2 z3 z4 z5); obtain ⟨⟨z0, z1⟩, z2, z3, z4, z5⟩ := HQT4.out.cells)
        | (go_at_call 37; have := T2; refine (txnum 100 (by decide) (by decide) _ _ _ ([] ++ be 1 1 ++ be 1 C) S 4 (by decide) (by have := HF.out.1.2.1; omega) (by have := HZ.out.1; simp only [List.length_append, List.length_nil, be_len]; (try rw [data_len]); omega) (by exact T2.out)).mono ?_; rintro e v2 ⟨rfl, h2⟩; have T3 := hid h2; clear h2; have HQT3 : Hid (RqAt v2 w.heap.size ⟨C, S, N, key, b, I⟩) := hid (((T3.out.2).block _ (lt_of_blk H2.out.1)).trans H2.out.1); (try clear z0 z1 z2 z3 z4 z5); obtain ⟨⟨z0, z1⟩, z2, z3, z4, z5⟩ := HQT3.out.cells)
        | (go_at_call 37; have := T1; refine (txnum 100 (by decide) (by decide) _ _ _ ([] ++ be 1 1) C 1 (by decide) (by have := HF.out.1.1; omega) (by have := HZ.out.1; simp only [List.length_append, List.length_nil, be_len]; (try rw [data_len]); omega) (by exact T1.out)).mono ?_; rintro e v1 ⟨rfl, h1⟩; have T2 := hid h1; clear h1; have HQT2 : Hid (RqAt v1 w.heap.size ⟨C, S, N, key, b, I⟩) := hid (((T2.out.2).block _ (lt_of_blk H2.out.1)).trans H2.out.1); (try clear z0 z1 z2 z3 z4 z5); obtain ⟨⟨z0, z1⟩, z2, z3, z4, z5⟩ := HQT2.out.cells)
        | (go_at_call 37; have := T0; refine (txnum 100 (by decide) (by decide) _ _ _ [] 1 1 (by decide) (by decide) (by decide) (by exact T0.out)).mono ?_; rintro e v0 ⟨rfl, h0⟩; have T1 := hid h0; clear h0; have HQT1 : Hid (RqAt v0 w.heap.size ⟨C, S, N, key, b, I⟩) := hid (((T1.out.2).block _ (lt_of_blk H2.out.1)).trans H2.out.1); (try clear z0 z1 z2 z3 z4 z5); obtain ⟨⟨z0, z1⟩, z2, z3, z4, z5⟩ := HQT1.out.cells)
        | (go_at_call 44; refine (HKB.out _).mono ?_; rintro e w9 ⟨rfl, rfl⟩)
        | (go_at_call 38; refine (txdone 100 _ _ _ _ (by exact T7.out)).mono ?_; rintro e wd ⟨rfl, hd⟩; have HDn := hid (H2.out.2.trans (hd.mono H2.out.2.size)); clear hd))
      go_ret2
      refine ⟨?_, HDn.out⟩
      rw [HF.out.2]
      rfl
end Go.Proofs.Ytohhlolmojeomaa

/- What the document reads any bytes as: a request. -/
namespace Go.Proofs.Ytohhlolmojeomaa
open Go.RowKit

theorem rq_st {w : World} {b : Nat} {r : Rq} (h : RqAt w b r) (v : Int) : RqAt (w.setCell ⟨b, 1, none⟩ (.int .i64 v)) b { r with st := v } := (blk_set h 1 _).trans (by simp)
theorem rq_k {w : World} {b : Nat} {r : Rq} (h : RqAt w b r) (v : Int) : RqAt (w.setCell ⟨b, 2, none⟩ (.int .i64 v)) b { r with k := v } := (blk_set h 2 _).trans (by simp)
theorem rq_key {w : World} {b : Nat} {r : Rq} (h : RqAt w b r) (v : ByteArray) : RqAt (w.setCell ⟨b, 3, none⟩ (.string v)) b { r with key := v } := (blk_set h 3 _).trans (by simp)
theorem rq_b {w : World} {b : Nat} {r : Rq} (h : RqAt w b r) (v : Nat) : RqAt (w.setCell ⟨b, 4, none⟩ (.float .f64 v)) b { r with b := v } := (blk_set h 4 _).trans (by simp)
theorem rq_id {w : World} {b : Nat} {r : Rq} (h : RqAt w b r) (v : Int) : RqAt (w.setCell ⟨b, 5, none⟩ (.int .i64 v)) b { r with id := v } := (blk_set h 5 _).trans (by simp)
theorem load_rq (w : World) (b : Nat) (r : Rq) (h : RqAt w b r) : (loadVar 43 ⟨b, 0, none⟩).run Try.prog w = .ok (.agg #[.int .i64 r.c, .int .i64 r.st, .int .i64 r.k, .string r.key, .float .f64 r.b, .int .i64 r.id]) w := by
  obtain ⟨⟨z0, z1⟩, z2, z3, z4, z5⟩ := h.cells
  clear h
  go_simp
theorem rd_sizes (s : ByteArray) (sh : Bool) (n : Nat) : (rS s sh n).size ≤ s.size := by
  rw [rS]
  split
  · rw [← data_len, ext_data, List.length_drop, List.length_take, data_len]
    omega
  · exact Nat.le_refl _
end Go.Proofs.Ytohhlolmojeomaa

/- The document's: are two requests one, are their texts the same; results' texts; what is prepared, states. -/
namespace Go.Proofs.Ytohhlolmojeomaa
open Go.RowKit

theorem text_eq (x y : ByteArray) : (x.toList == y.toList) = decide (x = y) := by
  rw [ByteArray.toList_eq, ByteArray.toList_eq, Bool.eq_iff_iff]
  simp only [beq_iff_eq, decide_eq_true_eq]
  exact ⟨fun h => ByteArray.ext (Array.ext' h), fun h => by rw [h]⟩
/-- Two requests in two variables, one behind the other. -/
structure TwQ (w0 w : World) (x y : Rq) : Prop where
  one : RqAt w w0.heap.size x
  two : RqAt w (w0.heap.size + 1) y
  bel : Below w0.heap.size w0 w
theorem TwQ.keep {w0 w w' : World} {x y : Rq} (h : TwQ w0 w x y) (hb : Below w.heap.size w w') : TwQ w0 w' x y := ⟨h.one.keep hb, h.two.keep hb, h.bel.trans (hb.mono h.bel.size)⟩
theorem twq_new (w : World) (x y : Rq) : TwQ w ((w.alloc (.cells #[.int .i64 x.c, .int .i64 x.st, .int .i64 x.k, .string x.key, .float .f64 x.b, .int .i64 x.id] 43)).alloc (.cells #[.int .i64 y.c, .int .i64 y.st, .int .i64 y.k, .string y.key, .float .f64 y.b, .int .i64 y.id] 43)) x y :=
  ⟨(Below.heap_alloc _ _ _ (by simp)).trans (heap_alloc_last w _), snd_alloc w _ _, ((Below.refl _ _).alloc (Nat.le_refl _) _).alloc (by simp) _⟩
def sameB (x y : Rq) : Bool := (decide (rqE x = 0) && decide (rqE y = 0)) && decide (rqT x = rqT y)
set_option maxRecDepth 100000 in
set_option maxHeartbeats 3200000 in
theorem qsame_any (x y : Rq) (hx : x.b < 18446744073709551616) (hy : y.b < 18446744073709551616) (w : World) : Calls Try.prog 18 #[.agg #[.int .i64 x.c, .int .i64 x.st, .int .i64 x.k, .string x.key, .float .f64 x.b, .int .i64 x.id], .agg #[.int .i64 y.c, .int .i64 y.st, .int .i64 y.k, .string y.key, .float .f64 y.b, .int .i64 y.id]] w fun e w' => e = .returned (.bool (sameB x y)) ∧ Below w.heap.size w w' := by
  have H0 := hid (twq_new w x y)
  have HX := hid (fun u => qtext_any x hx u)
  have HY := hid (fun u => qtext_any y hy u)
  obtain ⟨B, hB⟩ : ∃ B, sameB x y = B := ⟨_, rfl⟩
  rw [hB]
  have HBe : Hid (B = ((decide (rqE x = 0) && decide (rqE y = 0)) && decide (rqT x = rqT y))) := hid hB.symm
  have hte := text_eq (rqT x) (rqT y)
  clear hx hy hB
  generalize rqT x = TX at *
  generalize rqT y = TY at *
  generalize rqE x = EX at *
  generalize rqE y = EY at *
  go_enter Try.func18, Try.ntmps18
  go_wp2_with (first
    | (go_at_call 35; have := H1; refine (HY.out _).mono ?_; rintro e w2 ⟨rfl, hb2⟩; have H2 := hid (H1.out.keep hb2); clear hb2)
    | (go_at_call 35; refine (HX.out _).mono ?_; rintro e w1 ⟨rfl, hb1⟩; have H1 := hid (H0.out.keep hb1); clear hb1; obtain ⟨⟨z0, z1⟩, z2, z3, z4, z5⟩ := H1.out.two.cells))
  all_goals go_ret
  all_goals refine ⟨ret_bool ?_, H2.out.bel⟩
  all_goals (rw [HBe.out, Bool.eq_iff_iff]; simp_all)
set_option maxRecDepth 100000 in
set_option maxHeartbeats 6400000 in
theorem qwhole_any (x y : Rq) (w : World) : Calls Try.prog 21 #[.agg #[.int .i64 x.c, .int .i64 x.st, .int .i64 x.k, .string x.key, .float .f64 x.b, .int .i64 x.id], .agg #[.int .i64 y.c, .int .i64 y.st, .int .i64 y.k, .string y.key, .float .f64 y.b, .int .i64 y.id]] w fun e w' => e = .returned (.bool (wholeB x y)) ∧ Below w.heap.size w w' := by
  have H0 := hid (twq_new w x y)
  have HKB : Hid (∀ (b : Nat) (u : World), Calls Try.prog 44 #[.float .f64 b] u fun e w' => e = .returned (.int .u64 (canW b : Nat)) ∧ Below u.heap.size u w') := hid (fun b u => (kbits_any b u).mono fun e w' ⟨h1, h2⟩ => ⟨h1, by rw [h2]; exact Below.refl _ _⟩)
  obtain ⟨B, hB⟩ : ∃ B, wholeB x y = B := ⟨_, rfl⟩
  rw [hB]
  have HBe : Hid (B = (((((decide (x.c = y.c) && decide (x.st = y.st)) && decide (x.k = y.k)) && decide (x.key = y.key)) && decide (x.id = y.id)) && decide (canW x.b = canW y.b))) := hid hB.symm

  clear hB
  obtain ⟨W, eW⟩ : ∃ W, W = (w.alloc (.cells #[.int .i64 x.c, .int .i64 x.st, .int .i64 x.k, .string x.key, .float .f64 x.b, .int .i64 x.id] 43)).alloc (.cells #[.int .i64 y.c, .int .i64 y.st, .int .i64 y.k, .string y.key, .float .f64 y.b, .int .i64 y.id] 43) := ⟨_, rfl⟩
  rw [← eW] at H0
  have q0 : ∀ u : Cls W, u.1.cell? ⟨w.heap.size, 0, none⟩ = some (.int .i64 x.c) := fun u => (H0.out.keep u.2).one.cells.1.1
  have q1 : ∀ u : Cls W, u.1.cell? ⟨w.heap.size, 1, none⟩ = some (.int .i64 x.st) := fun u => (H0.out.keep u.2).one.cells.1.2
  have q2 : ∀ u : Cls W, u.1.cell? ⟨w.heap.size, 2, none⟩ = some (.int .i64 x.k) := fun u => (H0.out.keep u.2).one.cells.2.1
  have q3 : ∀ u : Cls W, u.1.cell? ⟨w.heap.size, 3, none⟩ = some (.string x.key) := fun u => (H0.out.keep u.2).one.cells.2.2.1
  have q4 : ∀ u : Cls W, u.1.cell? ⟨w.heap.size, 4, none⟩ = some (.float .f64 x.b) := fun u => (H0.out.keep u.2).one.cells.2.2.2.1
  have q5 : ∀ u : Cls W, u.1.cell? ⟨w.heap.size, 5, none⟩ = some (.int .i64 x.id) := fun u => (H0.out.keep u.2).one.cells.2.2.2.2
  have hks : ∀ (D : Bool), (x.key.toList == y.key.toList) = D → ∀ u : Cls W, (binOp .eql 9 (.string x.key) (.string y.key)).run Try.prog u.1 = .ok (.bool D) u.1 := fun D hD u => by rw [← hD]; go_simp
  have p0 : ∀ u : Cls W, u.1.cell? ⟨w.heap.size + 1, 0, none⟩ = some (.int .i64 y.c) := fun u => (H0.out.keep u.2).two.cells.1.1
  have p1 : ∀ u : Cls W, u.1.cell? ⟨w.heap.size + 1, 1, none⟩ = some (.int .i64 y.st) := fun u => (H0.out.keep u.2).two.cells.1.2
  have p2 : ∀ u : Cls W, u.1.cell? ⟨w.heap.size + 1, 2, none⟩ = some (.int .i64 y.k) := fun u => (H0.out.keep u.2).two.cells.2.1
  have p3 : ∀ u : Cls W, u.1.cell? ⟨w.heap.size + 1, 3, none⟩ = some (.string y.key) := fun u => (H0.out.keep u.2).two.cells.2.2.1
  have p4 : ∀ u : Cls W, u.1.cell? ⟨w.heap.size + 1, 4, none⟩ = some (.float .f64 y.b) := fun u => (H0.out.keep u.2).two.cells.2.2.2.1
  have p5 : ∀ u : Cls W, u.1.cell? ⟨w.heap.size + 1, 5, none⟩ = some (.int .i64 y.id) := fun u => (H0.out.keep u.2).two.cells.2.2.2.2
  by_cases h0 : x.c = y.c
  · have t0 : (x.c == y.c) = true := by simp [h0]
    have HH0 := hid h0
    clear h0
    by_cases h1 : x.st = y.st
    · have t1 : (x.st == y.st) = true := by simp [h1]
      have HH1 := hid h1
      clear h1
      by_cases h2 : x.k = y.k
      · have t2 : (x.k == y.k) = true := by simp [h2]
        have HH2 := hid h2
        clear h2
        by_cases h3 : x.key = y.key
        · have t3 : (x.key.toList == y.key.toList) = true := by simp [h3]
          have HH3 := hid h3
          clear h3
          have hktrue := hks true t3
          clear hks
          by_cases h4 : x.id = y.id
          · have t4 : (x.id == y.id) = true := by simp [h4]
            have HH4 := hid h4
            clear h4
            by_cases h5 : canW x.b = canW y.b
            · have t5 : (((canW x.b : Nat) : Int) == ((canW y.b : Nat) : Int)) = true := by simp [h5]
              have HH5 := hid h5
              clear h5
              go_enter Try.func21, Try.ntmps21
              go_wp2
              rw [← eW]
              clear eW
              haveI := Cls.ne W
              refine wp_region_cls W (by kernel_rfl) (by kernel_rfl) ?_
              repeat (go_big_quiet_step ((first | (go_at_call 44; exact Cls.of _ (fun u _ => HKB.out _ u)))))
              rintro w' ⟨u, rfl⟩
              go_wp2
              go_ret
              exact ⟨ret_bool (by rw [HBe.out]; simp [HH0.out, HH1.out, HH2.out, HH3.out, HH4.out, HH5.out]), H0.out.bel.trans (u.2.mono H0.out.bel.size)⟩
            · have t5 : (((canW x.b : Nat) : Int) == ((canW y.b : Nat) : Int)) = false := by simp; omega
              have HH5 := hid h5
              clear h5
              go_enter Try.func21, Try.ntmps21
              go_wp2
              rw [← eW]
              clear eW
              haveI := Cls.ne W
              refine wp_region_cls W (by kernel_rfl) (by kernel_rfl) ?_
              repeat (go_big_quiet_step ((first | (go_at_call 44; exact Cls.of _ (fun u _ => HKB.out _ u)))))
              rintro w' ⟨u, rfl⟩
              go_wp2
              go_ret
              exact ⟨ret_bool (by rw [HBe.out]; simp [HH5.out]), H0.out.bel.trans (u.2.mono H0.out.bel.size)⟩
          · have t4 : (x.id == y.id) = false := by simpa using h4
            have HH4 := hid h4
            clear h4
            go_enter Try.func21, Try.ntmps21
            go_wp2
            rw [← eW]
            clear eW
            haveI := Cls.ne W
            refine wp_region_cls W (by kernel_rfl) (by kernel_rfl) ?_
            repeat (go_big_quiet_step ((first | (go_at_call 44; exact Cls.of _ (fun u _ => HKB.out _ u)))))
            rintro w' ⟨u, rfl⟩
            go_wp2
            go_ret
            exact ⟨ret_bool (by rw [HBe.out]; simp [HH4.out]), H0.out.bel.trans (u.2.mono H0.out.bel.size)⟩
        · have t3 : (x.key.toList == y.key.toList) = false := by rw [text_eq]; exact decide_eq_false h3
          have HH3 := hid h3
          clear h3
          have hkfalse := hks false t3
          clear hks
          go_enter Try.func21, Try.ntmps21
          go_wp2
          rw [← eW]
          clear eW
          haveI := Cls.ne W
          refine wp_region_cls W (by kernel_rfl) (by kernel_rfl) ?_
          repeat (go_big_quiet_step ((first | (go_at_call 44; exact Cls.of _ (fun u _ => HKB.out _ u)))))
          rintro w' ⟨u, rfl⟩
          go_wp2
          go_ret
          exact ⟨ret_bool (by rw [HBe.out]; simp [HH3.out]), H0.out.bel.trans (u.2.mono H0.out.bel.size)⟩
      · have t2 : (x.k == y.k) = false := by simpa using h2
        have HH2 := hid h2
        clear h2
        clear hks
        go_enter Try.func21, Try.ntmps21
        go_wp2
        rw [← eW]
        clear eW
        haveI := Cls.ne W
        refine wp_region_cls W (by kernel_rfl) (by kernel_rfl) ?_
        repeat (go_big_quiet_step ((first | (go_at_call 44; exact Cls.of _ (fun u _ => HKB.out _ u)))))
        rintro w' ⟨u, rfl⟩
        go_wp2
        go_ret
        exact ⟨ret_bool (by rw [HBe.out]; simp [HH2.out]), H0.out.bel.trans (u.2.mono H0.out.bel.size)⟩
    · have t1 : (x.st == y.st) = false := by simpa using h1
      have HH1 := hid h1
      clear h1
      clear hks
      go_enter Try.func21, Try.ntmps21
      go_wp2
      rw [← eW]
      clear eW
      haveI := Cls.ne W
      refine wp_region_cls W (by kernel_rfl) (by kernel_rfl) ?_
      repeat (go_big_quiet_step ((first | (go_at_call 44; exact Cls.of _ (fun u _ => HKB.out _ u)))))
      rintro w' ⟨u, rfl⟩
      go_wp2
      go_ret
      exact ⟨ret_bool (by rw [HBe.out]; simp [HH1.out]), H0.out.bel.trans (u.2.mono H0.out.bel.size)⟩
  · have t0 : (x.c == y.c) = false := by simpa using h0
    have HH0 := hid h0
    clear h0
    clear hks
    go_enter Try.func21, Try.ntmps21
    go_wp2
    rw [← eW]
    clear eW
    haveI := Cls.ne W
    refine wp_region_cls W (by kernel_rfl) (by kernel_rfl) ?_
    repeat (go_big_quiet_step ((first | (go_at_call 44; exact Cls.of _ (fun u _ => HKB.out _ u)))))
    rintro w' ⟨u, rfl⟩
    go_wp2
    go_ret
    exact ⟨ret_bool (by rw [HBe.out]; simp [HH0.out]), H0.out.bel.trans (u.2.mono H0.out.bel.size)⟩
end Go.Proofs.Ytohhlolmojeomaa

/- The document's: what any bytes are read as, as a result; what is prepared, a state. -/
namespace Go.Proofs.Ytohhlolmojeomaa
open Go.RowKit

theorem adm_zero' {lim : Int} {n : Nat} {er : Int} {r : Bool} {size : Int} (h : adm lim n er r size = 0) : er = 0 ∧ r = true := by
  unfold adm at h
  split at h
  · next h1 =>
    split at h
    · next h2 => exact ⟨h1, h2⟩
    · cases h
  · next h1 => exact absurd h h1
theorem add_texts (a b : ByteArray) : (a ++ b).data.toList = a.data.toList ++ b.data.toList := by simp [ByteArray.data_append]
end Go.Proofs.Ytohhlolmojeomaa

/- The document's: are two results one; what is prepared. -/
namespace Go.Proofs.Ytohhlolmojeomaa
open Go.RowKit

/-- The bytes ahead of a request that is prepared. -/
theorem pr_head {e v s : Int} (h : spB e v s = true) : ∃ E V S : Nat, e = (E : Int) ∧ v = (V : Int) ∧ s = (S : Int) ∧ E < 256 ^ 4 ∧ V < 256 ^ 4 ∧ S < 256 ^ 4 := by
  rw [spB, Bool.and_eq_true_iff, Bool.and_eq_true_iff] at h
  have h1 := inR4 h.1.1
  have h2 := inR4 h.1.2
  have h3 := inR4 h.2
  exact ⟨e.toNat, v.toNat, s.toNat, by omega, by omega, by omega, by omega, by omega, by omega⟩
theorem rqT_size (r : Rq) : (rqT r).size ≤ 34 := by
  unfold rqT
  split
  · decide
  · split
    · next h =>
      have h1 := (right_fields h).2.2.2.1
      have h2 := rqL_len r
      show (rqL r).toArray.size ≤ 34
      simp
      omega
    · decide
set_option maxRecDepth 100000 in
set_option maxHeartbeats 6400000 in
theorem qprepared_any (e v s : Int) (r : Rq) (hb : r.b < 18446744073709551616) (w : World) : Calls Try.prog 11 #[.int .i64 e, .int .i64 v, .int .i64 s, .agg #[.int .i64 r.c, .int .i64 r.st, .int .i64 r.k, .string r.key, .float .f64 r.b, .int .i64 r.id]] w fun e' w' => e' = .returned (.tuple #[.string (prT e v s r), .int .i64 (prE e v s r)]) ∧ Below w.heap.size w w' := by
  have H0 : Hid (RqAt (w.alloc (.cells #[.int .i64 r.c, .int .i64 r.st, .int .i64 r.k, .string r.key, .float .f64 r.b, .int .i64 r.id] 43)) w.heap.size r ∧ Below w.heap.size w (w.alloc (.cells #[.int .i64 r.c, .int .i64 r.st, .int .i64 r.k, .string r.key, .float .f64 r.b, .int .i64 r.id] 43))) := hid ⟨heap_alloc_last w _, (Below.refl w.heap.size w).alloc (Nat.le_refl _) _⟩
  have HTx : Hid (∀ E, rqE r = E → ∀ u, Calls Try.prog 35 #[.agg #[.int .i64 r.c, .int .i64 r.st, .int .i64 r.k, .string r.key, .float .f64 r.b, .int .i64 r.id]] u fun e w' => e = .returned (.tuple #[.string (rqT r), .int .i64 E]) ∧ Below u.heap.size u w') := hid (fun E hE u => by rw [← hE]; exact qtext_any r hb u)
  have HSz := hid (rqT_size r)
  clear hb
  by_cases hE : rqE r = 0
  · have HTb := hid (HTx.out 0 hE)
    cases hB : spB e v s with
    | true =>
      rw [show prE e v s r = 0 by rw [prE, if_pos hE, if_pos hB]]
      have hT : prT e v s r = ⟨(prL e v s).toArray⟩ ++ rqT r := by
        apply ByteArray.ext
        apply Array.ext'
        rw [add_texts, prT, if_pos hE, if_pos hB]
      obtain ⟨E, V, S, rfl, rfl, rfl, e1, e2, e3⟩ := pr_head hB
      rw [hT, show prL (E : Int) (V : Int) (S : Int) = be 1 80 ++ (be 4 E ++ (be 4 V ++ be 4 S)) from rfl]
      generalize rqT r = T at HTb HSz ⊢
      have HX : Hid (∀ n, n = (be 1 80).length + ((be 4 E).length + ((be 4 V).length + (be 4 S).length)) + T.size → n ≤ 9223372036854775807) := hid (by intro n hn; simp only [be_len] at hn; have := HSz.out; omega)
      have HN := hid (And.intro e1 (And.intro e2 e3))
      clear hE hB hT e1 e2 e3 HTx
      go_enter Try.func11, Try.ntmps11
      go_wp2_with (first
        | (go_at_call 35; refine (HTb.out _).mono ?_; rintro e w2 ⟨rfl, hb2⟩; have H2 := hid (H0.out.2.trans (hb2.mono H0.out.2.size)); clear hb2)
        | (go_at_call 36; refine (txnew 100 (by decide) _).mono ?_; rintro e w3 ⟨rfl, h3⟩; have T0 := hid h3; clear h3)
        | (go_at_call 37; have := T3; refine (txnum 100 (by decide) (by decide) _ _ _ ([] ++ be 1 80 ++ be 4 E ++ be 4 V) S 4 (by decide) HN.out.2.2 (by simp only [List.length_append, List.length_nil, be_len]; decide) (by exact T3.out)).mono ?_; rintro e w7 ⟨rfl, h7⟩; have T4 := hid h7; clear h7)
        | (go_at_call 37; have := T2; refine (txnum 100 (by decide) (by decide) _ _ _ ([] ++ be 1 80 ++ be 4 E) V 4 (by decide) HN.out.2.1 (by simp only [List.length_append, List.length_nil, be_len]; decide) (by exact T2.out)).mono ?_; rintro e w6 ⟨rfl, h6⟩; have T3 := hid h6; clear h6)
        | (go_at_call 37; have := T1; refine (txnum 100 (by decide) (by decide) _ _ _ ([] ++ be 1 80) E 4 (by decide) HN.out.1 (by decide) (by exact T1.out)).mono ?_; rintro e w5 ⟨rfl, h5⟩; have T2 := hid h5; clear h5)
        | (go_at_call 37; refine (txnum 100 (by decide) (by decide) _ _ _ [] 80 1 (by decide) (by decide) (by decide) (by exact T0.out)).mono ?_; rintro e w4 ⟨rfl, h4⟩; have T1 := hid h4; clear h4)
        | (go_at_call 38; refine (txdone 100 _ _ _ _ (by exact T4.out)).mono ?_; rintro e w8 ⟨rfl, h8⟩; have HDn := hid (H2.out.trans (h8.mono H2.out.size)); clear h8))
      · rename_i h; exact absurd h (Nat.not_lt.mpr (HX.out _ (by omega)))
      go_ret2
      exact ⟨rfl, HDn.out⟩
    | false =>
      rw [show prE e v s r = 1 by rw [prE, if_pos hE, hB]; rfl, show prT e v s r = ⟨#[]⟩ by rw [prT, if_pos hE, hB]; rfl]
      obtain ⟨l1, hl1⟩ : ∃ l, l = wL 100 ([] ++ be 1 80) 0 4 e := ⟨_, rfl⟩
      obtain ⟨r1, hr1⟩ : ∃ l, l = wE 100 ([] ++ be 1 80) 0 4 e := ⟨_, rfl⟩
      obtain ⟨l2, hl2⟩ : ∃ l, l = wL 100 l1 r1 4 v := ⟨_, rfl⟩
      obtain ⟨r2, hr2⟩ : ∃ l, l = wE 100 l1 r1 4 v := ⟨_, rfl⟩
      obtain ⟨r3, hr3⟩ : ∃ l, l = wE 100 l2 r2 4 s := ⟨_, rfl⟩
      have hlen1 : l1.length ≤ 5 := by rw [hl1, wL]; split <;> simp [be_len]
      have hlen2 : l2.length ≤ 9 := by rw [hl2, wL]; split <;> (try simp [be_len]) <;> omega
      have hne : r3 ≠ 0 := fun h => by
        have h3 := adm_zero' (hr3.symm.trans h)
        have h2 := adm_zero' (hr2.symm.trans h3.1)
        have h1 := adm_zero' (hr1.symm.trans h2.1)
        rw [spB, h1.2, h2.2, h3.2] at hB
        cases hB
      have hneb : (r3 != 0) = true := by simpa using hne
      have HH := hid (And.intro hl1 (And.intro hr1 (And.intro hl2 (And.intro hr2 (And.intro hr3 (And.intro hlen1 hlen2))))))
      generalize rqT r = T at HTb HSz
      clear hE hB hl1 hr1 hl2 hr2 hr3 hlen1 hlen2 hne HTx
      go_enter Try.func11, Try.ntmps11
      go_wp2_with (first
        | (go_at_call 35; refine (HTb.out _).mono ?_; rintro e w2 ⟨rfl, hb2⟩; have H2 := hid (H0.out.2.trans (hb2.mono H0.out.2.size)); clear hb2)
        | (go_at_call 36; refine (txnew 100 (by decide) _).mono ?_; rintro e w3 ⟨rfl, h3⟩; have T0 := hid h3; clear h3)
        | (go_at_call 37; have := T3; refine (tenum 100 (by decide) (by decide) _ _ _ l2 r2 s 4 (by decide) (by have := HH.out.2.2.2.2.2.2; omega) (by exact T3.out)).mono ?_; rintro e w7 ⟨rfl, h7⟩; rw [← HH.out.2.2.2.2.1] at h7; have T4 := hid h7; clear h7)
        | (go_at_call 37; have := T2; refine (tenum 100 (by decide) (by decide) _ _ _ l1 r1 v 4 (by decide) (by have := HH.out.2.2.2.2.2.1; omega) (by exact T2.out)).mono ?_; rintro e w6 ⟨rfl, h6⟩; rw [← HH.out.2.2.1, ← HH.out.2.2.2.1] at h6; have T3 := hid h6; clear h6)
        | (go_at_call 37; have := T1; refine (tenum 100 (by decide) (by decide) _ _ _ ([] ++ be 1 80) 0 e 4 (by decide) (by decide) (by exact T1.out.te)).mono ?_; rintro e w5 ⟨rfl, h5⟩; rw [← HH.out.1, ← HH.out.2.1] at h5; have T2 := hid h5; clear h5)
        | (go_at_call 37; refine (txnum 100 (by decide) (by decide) _ _ _ [] 80 1 (by decide) (by decide) (by decide) (by exact T0.out)).mono ?_; rintro e w4 ⟨rfl, h4⟩; have T1 := hid h4; clear h4)
        | (go_at_call 38; refine (tedone 100 _ _ _ _ _ (by exact T4.out)).mono ?_; rintro e w8 ⟨rfl, h8⟩; have HDn := hid (H2.out.trans (h8.mono H2.out.size)); clear h8))
      go_ret2
      exact ⟨rfl, HDn.out⟩
  · have hE1 : rqE r = 1 := by
      unfold rqE at hE ⊢
      split
      · next h => rw [if_pos h] at hE; exact absurd rfl hE
      · next h =>
        rw [if_neg h] at hE
        split
        · next h2 => rw [if_pos h2] at hE; exact absurd rfl hE
        · rfl
    rw [show prE e v s r = 1 by rw [prE, if_neg hE], show prT e v s r = ⟨#[]⟩ by rw [prT, if_neg hE]]
    have HTb := hid (HTx.out 1 hE1)
    generalize rqT r = T at HTb HSz
    clear hE hE1 HTx
    go_enter Try.func11, Try.ntmps11
    go_wp2_with (go_at_call 35; refine (HTb.out _).mono ?_; rintro e w2 ⟨rfl, hb2⟩; have H2 := hid (H0.out.2.trans (hb2.mono H0.out.2.size)); clear hb2)
    go_ret2
    exact ⟨rfl, H2.out⟩
end Go.Proofs.Ytohhlolmojeomaa

/- The program's deeds: which operation is right, which request, which is the null one, which result. -/
namespace Go.Proofs.Ytohhlolmojeomaa
open Go.RowKit

set_option maxRecDepth 100000 in
theorem dplain_any (r : Rq) (w : World) : Calls Try.prog 95 #[.agg #[.int .i64 r.k, .string r.key, .float .f64 r.b, .int .i64 r.id]] w fun e w' => e = .returned (.bool (plainB r)) ∧ Below w.heap.size w w' := by
  have HB : Hid (Below w.heap.size w (w.alloc (.cells #[.int .i64 r.k, .string r.key, .float .f64 r.b, .int .i64 r.id] 41))) := hid ((Below.refl _ _).alloc (Nat.le_refl _) _)
  obtain ⟨B, hB⟩ : ∃ B, plainB r = B := ⟨_, rfl⟩
  have HBe := hid hB
  rw [hB]
  clear hB
  go_enter Try.func95, Try.ntmps95
  go_wp2_with (go_at_call 86; refine (bits_any _ _).mono ?_; rintro e w1 ⟨rfl, rfl⟩)
  go_ret
  refine ⟨ret_bool ?_, HB.out⟩
  rw [← HBe.out, plainB, Bool.eq_iff_iff]
  simp
set_option maxRecDepth 100000 in
set_option maxHeartbeats 6400000 in
theorem dop_any (r : Rq) (w : World) : Calls Try.prog 94 #[.agg #[.int .i64 r.k, .string r.key, .float .f64 r.b, .int .i64 r.id]] w fun e w' => e = .returned (.bool (opB r)) ∧ Below w.heap.size w w' := by
  obtain ⟨c, st, k, key, b, id⟩ := r
  simp only
  have HP := fun (k : Int) (u : World) => dplain_any ⟨c, st, k, key, b, id⟩ u
  simp only at HP
  have HPk : ∀ k, plainB ⟨c, st, k, key, b, id⟩ = plainB ⟨c, st, 0, key, b, id⟩ := fun _ => rfl
  have HOp : Hid (∀ k, opB ⟨c, st, k, key, b, id⟩ = if k = 1 ∨ k = 2 ∨ k = 3 then ((decide (1 ≤ key.size) && decide (key.size ≤ 16)) && decide (id = 0)) else if k = 4 ∨ k = 5 then ((decide (1 ≤ key.size) && decide (key.size ≤ 16)) && decide (id = 0)) && plainB ⟨c, st, 0, key, b, id⟩ else if k = 6 ∨ k = 7 then ((decide (key.size = 0) && plainB ⟨c, st, 0, key, b, id⟩) && decide (0 ≤ id)) && decide (id < 16) else false) := hid (fun _ => rfl)
  simp only [HPk] at HP
  have HPh := hid HP
  obtain ⟨B, hB⟩ : ∃ B, B = opB ⟨c, st, k, key, b, id⟩ := ⟨_, rfl⟩
  rw [HOp.out] at hB
  rw [show opB ⟨c, st, k, key, b, id⟩ = B by rw [hB, HOp.out]]
  have HBe := hid hB
  have hz2 := none_size key
  clear HP HPk hB HOp
  generalize plainB ⟨c, st, 0, key, b, id⟩ = P at *
  by_cases h1 : k = 1
  · subst h1
    rw [if_pos (by decide)] at HBe
    go_enter Try.func94, Try.ntmps94
    go_wp2_with (go_at_call 95; refine (HPh.out _ _).mono ?_; rintro e w2 ⟨rfl, hb2⟩; have H1 := hid (And.intro ((hb2.block _ (by simp)).trans (heap_alloc_last w _)) (((Below.refl w.heap.size w).alloc (Nat.le_refl _) _).trans (hb2.mono (by simp)))); clear hb2; have z0 := cell_at (L := [.int .i64 1, .string key, .float .f64 b, .int .i64 id]) H1.out.1 0 _ rfl; have z1 := cell_at (L := [.int .i64 1, .string key, .float .f64 b, .int .i64 id]) H1.out.1 1 _ rfl; have z2 := cell_at (L := [.int .i64 1, .string key, .float .f64 b, .int .i64 id]) H1.out.1 2 _ rfl; have z3 := cell_at (L := [.int .i64 1, .string key, .float .f64 b, .int .i64 id]) H1.out.1 3 _ rfl)
    all_goals go_ret
    all_goals refine ⟨ret_bool ?_, by first | exact H1.out.2 | exact (Below.refl w.heap.size w).alloc (Nat.le_refl _) _⟩
    all_goals (first | exact HBe.out.symm | (rw [HBe.out, Bool.eq_iff_iff]; simp; done) | (rw [HBe.out, Bool.eq_iff_iff]; simp; omega))
  by_cases h2 : k = 2
  · subst h2
    rw [if_pos (by decide)] at HBe
    go_enter Try.func94, Try.ntmps94
    go_wp2_with (go_at_call 95; refine (HPh.out _ _).mono ?_; rintro e w2 ⟨rfl, hb2⟩; have H1 := hid (And.intro ((hb2.block _ (by simp)).trans (heap_alloc_last w _)) (((Below.refl w.heap.size w).alloc (Nat.le_refl _) _).trans (hb2.mono (by simp)))); clear hb2; have z0 := cell_at (L := [.int .i64 2, .string key, .float .f64 b, .int .i64 id]) H1.out.1 0 _ rfl; have z1 := cell_at (L := [.int .i64 2, .string key, .float .f64 b, .int .i64 id]) H1.out.1 1 _ rfl; have z2 := cell_at (L := [.int .i64 2, .string key, .float .f64 b, .int .i64 id]) H1.out.1 2 _ rfl; have z3 := cell_at (L := [.int .i64 2, .string key, .float .f64 b, .int .i64 id]) H1.out.1 3 _ rfl)
    all_goals go_ret
    all_goals refine ⟨ret_bool ?_, by first | exact H1.out.2 | exact (Below.refl w.heap.size w).alloc (Nat.le_refl _) _⟩
    all_goals (first | exact HBe.out.symm | (rw [HBe.out, Bool.eq_iff_iff]; simp; done) | (rw [HBe.out, Bool.eq_iff_iff]; simp; omega))
  by_cases h3 : k = 3
  · subst h3
    rw [if_pos (by decide)] at HBe
    go_enter Try.func94, Try.ntmps94
    go_wp2_with (go_at_call 95; refine (HPh.out _ _).mono ?_; rintro e w2 ⟨rfl, hb2⟩; have H1 := hid (And.intro ((hb2.block _ (by simp)).trans (heap_alloc_last w _)) (((Below.refl w.heap.size w).alloc (Nat.le_refl _) _).trans (hb2.mono (by simp)))); clear hb2; have z0 := cell_at (L := [.int .i64 3, .string key, .float .f64 b, .int .i64 id]) H1.out.1 0 _ rfl; have z1 := cell_at (L := [.int .i64 3, .string key, .float .f64 b, .int .i64 id]) H1.out.1 1 _ rfl; have z2 := cell_at (L := [.int .i64 3, .string key, .float .f64 b, .int .i64 id]) H1.out.1 2 _ rfl; have z3 := cell_at (L := [.int .i64 3, .string key, .float .f64 b, .int .i64 id]) H1.out.1 3 _ rfl)
    all_goals go_ret
    all_goals refine ⟨ret_bool ?_, by first | exact H1.out.2 | exact (Below.refl w.heap.size w).alloc (Nat.le_refl _) _⟩
    all_goals (first | exact HBe.out.symm | (rw [HBe.out, Bool.eq_iff_iff]; simp; done) | (rw [HBe.out, Bool.eq_iff_iff]; simp; omega))
  by_cases h4 : k = 4
  · subst h4
    rw [if_neg (by decide), if_pos (by decide)] at HBe
    cases P <;>
    · go_enter Try.func94, Try.ntmps94
      go_wp2_with (go_at_call 95; refine (HPh.out _ _).mono ?_; rintro e w2 ⟨rfl, hb2⟩; have H1 := hid (And.intro ((hb2.block _ (by simp)).trans (heap_alloc_last w _)) (((Below.refl w.heap.size w).alloc (Nat.le_refl _) _).trans (hb2.mono (by simp)))); clear hb2; have z0 := cell_at (L := [.int .i64 4, .string key, .float .f64 b, .int .i64 id]) H1.out.1 0 _ rfl; have z1 := cell_at (L := [.int .i64 4, .string key, .float .f64 b, .int .i64 id]) H1.out.1 1 _ rfl; have z2 := cell_at (L := [.int .i64 4, .string key, .float .f64 b, .int .i64 id]) H1.out.1 2 _ rfl; have z3 := cell_at (L := [.int .i64 4, .string key, .float .f64 b, .int .i64 id]) H1.out.1 3 _ rfl)
      all_goals go_ret
      all_goals refine ⟨ret_bool ?_, by first | exact H1.out.2 | exact (Below.refl w.heap.size w).alloc (Nat.le_refl _) _⟩
      all_goals (first | exact HBe.out.symm | (rw [HBe.out, Bool.eq_iff_iff]; simp; done) | (rw [HBe.out, Bool.eq_iff_iff]; simp; omega))
  by_cases h5 : k = 5
  · subst h5
    rw [if_neg (by decide), if_pos (by decide)] at HBe
    cases P <;>
    · go_enter Try.func94, Try.ntmps94
      go_wp2_with (go_at_call 95; refine (HPh.out _ _).mono ?_; rintro e w2 ⟨rfl, hb2⟩; have H1 := hid (And.intro ((hb2.block _ (by simp)).trans (heap_alloc_last w _)) (((Below.refl w.heap.size w).alloc (Nat.le_refl _) _).trans (hb2.mono (by simp)))); clear hb2; have z0 := cell_at (L := [.int .i64 5, .string key, .float .f64 b, .int .i64 id]) H1.out.1 0 _ rfl; have z1 := cell_at (L := [.int .i64 5, .string key, .float .f64 b, .int .i64 id]) H1.out.1 1 _ rfl; have z2 := cell_at (L := [.int .i64 5, .string key, .float .f64 b, .int .i64 id]) H1.out.1 2 _ rfl; have z3 := cell_at (L := [.int .i64 5, .string key, .float .f64 b, .int .i64 id]) H1.out.1 3 _ rfl)
      all_goals go_ret
      all_goals refine ⟨ret_bool ?_, by first | exact H1.out.2 | exact (Below.refl w.heap.size w).alloc (Nat.le_refl _) _⟩
      all_goals (first | exact HBe.out.symm | (rw [HBe.out, Bool.eq_iff_iff]; simp; done) | (rw [HBe.out, Bool.eq_iff_iff]; simp; omega))
  by_cases h6 : k = 6
  · subst h6
    rw [if_neg (by decide), if_neg (by decide), if_pos (by decide)] at HBe
    cases hd : decide (key.size = 0) <;> rw [hd] at HBe hz2 <;> cases P <;>
    · clear hd
      go_enter Try.func94, Try.ntmps94
      go_wp2_with (go_at_call 95; refine (HPh.out _ _).mono ?_; rintro e w2 ⟨rfl, hb2⟩; have H1 := hid (And.intro ((hb2.block _ (by simp)).trans (heap_alloc_last w _)) (((Below.refl w.heap.size w).alloc (Nat.le_refl _) _).trans (hb2.mono (by simp)))); clear hb2; have z0 := cell_at (L := [.int .i64 6, .string key, .float .f64 b, .int .i64 id]) H1.out.1 0 _ rfl; have z1 := cell_at (L := [.int .i64 6, .string key, .float .f64 b, .int .i64 id]) H1.out.1 1 _ rfl; have z2 := cell_at (L := [.int .i64 6, .string key, .float .f64 b, .int .i64 id]) H1.out.1 2 _ rfl; have z3 := cell_at (L := [.int .i64 6, .string key, .float .f64 b, .int .i64 id]) H1.out.1 3 _ rfl)
      all_goals go_ret
      all_goals refine ⟨ret_bool ?_, by first | exact H1.out.2 | exact (Below.refl w.heap.size w).alloc (Nat.le_refl _) _⟩
      all_goals (first | exact HBe.out.symm | (rw [HBe.out, Bool.eq_iff_iff]; simp; done) | (rw [HBe.out, Bool.eq_iff_iff]; simp; omega))
  by_cases h7 : k = 7
  · subst h7
    rw [if_neg (by decide), if_neg (by decide), if_pos (by decide)] at HBe
    cases hd : decide (key.size = 0) <;> rw [hd] at HBe hz2 <;> cases P <;>
    · clear hd
      go_enter Try.func94, Try.ntmps94
      go_wp2_with (go_at_call 95; refine (HPh.out _ _).mono ?_; rintro e w2 ⟨rfl, hb2⟩; have H1 := hid (And.intro ((hb2.block _ (by simp)).trans (heap_alloc_last w _)) (((Below.refl w.heap.size w).alloc (Nat.le_refl _) _).trans (hb2.mono (by simp)))); clear hb2; have z0 := cell_at (L := [.int .i64 7, .string key, .float .f64 b, .int .i64 id]) H1.out.1 0 _ rfl; have z1 := cell_at (L := [.int .i64 7, .string key, .float .f64 b, .int .i64 id]) H1.out.1 1 _ rfl; have z2 := cell_at (L := [.int .i64 7, .string key, .float .f64 b, .int .i64 id]) H1.out.1 2 _ rfl; have z3 := cell_at (L := [.int .i64 7, .string key, .float .f64 b, .int .i64 id]) H1.out.1 3 _ rfl)
      all_goals go_ret
      all_goals refine ⟨ret_bool ?_, by first | exact H1.out.2 | exact (Below.refl w.heap.size w).alloc (Nat.le_refl _) _⟩
      all_goals (first | exact HBe.out.symm | (rw [HBe.out, Bool.eq_iff_iff]; simp; done) | (rw [HBe.out, Bool.eq_iff_iff]; simp; omega))
  rw [if_neg (by omega), if_neg (by omega), if_neg (by omega)] at HBe
  go_enter Try.func94, Try.ntmps94
  go_wp2_with (go_at_call 95; refine (HPh.out _ _).mono ?_; rintro e w2 ⟨rfl, hb2⟩; have H1 := hid (And.intro ((hb2.block _ (by simp)).trans (heap_alloc_last w _)) (((Below.refl w.heap.size w).alloc (Nat.le_refl _) _).trans (hb2.mono (by simp)))); clear hb2; have z0 := cell_at (L := [.int .i64 k, .string key, .float .f64 b, .int .i64 id]) H1.out.1 0 _ rfl; have z1 := cell_at (L := [.int .i64 k, .string key, .float .f64 b, .int .i64 id]) H1.out.1 1 _ rfl; have z2 := cell_at (L := [.int .i64 k, .string key, .float .f64 b, .int .i64 id]) H1.out.1 2 _ rfl; have z3 := cell_at (L := [.int .i64 k, .string key, .float .f64 b, .int .i64 id]) H1.out.1 3 _ rfl)
  all_goals go_ret
  all_goals refine ⟨ret_bool ?_, by first | exact H1.out.2 | exact (Below.refl w.heap.size w).alloc (Nat.le_refl _) _⟩
  all_goals (first | exact HBe.out.symm | (rw [HBe.out, Bool.eq_iff_iff]; simp; done) | (rw [HBe.out, Bool.eq_iff_iff]; simp; omega))
set_option maxRecDepth 100000 in
set_option maxHeartbeats 6400000 in
theorem dright_any (r : Rq) (w : World) : Calls Try.prog 79 #[.agg #[.int .i64 r.c, .int .i64 r.st, .int .i64 r.k, .string r.key, .float .f64 r.b, .int .i64 r.id]] w fun e w' => e = .returned (.bool (rightB r)) ∧ Below w.heap.size w w' := by
  have H0 : Hid (RqAt (w.alloc (.cells #[.int .i64 r.c, .int .i64 r.st, .int .i64 r.k, .string r.key, .float .f64 r.b, .int .i64 r.id] 43)) w.heap.size r ∧ Below w.heap.size w (w.alloc (.cells #[.int .i64 r.c, .int .i64 r.st, .int .i64 r.k, .string r.key, .float .f64 r.b, .int .i64 r.id] 43))) := hid ⟨heap_alloc_last w _, (Below.refl w.heap.size w).alloc (Nat.le_refl _) _⟩
  obtain ⟨B, hB⟩ : ∃ B, rightB r = B := ⟨_, rfl⟩
  have HBe : Hid (B = rightB r) := hid hB.symm
  rw [hB]
  clear hB
  obtain ⟨O, hO⟩ : ∃ O, opB r = O := ⟨_, rfl⟩
  have HO := hid (fun u => hO ▸ dop_any r u)
  have HOe := hid hO
  clear hO
  go_enter Try.func79, Try.ntmps79
  go_wp2_with (go_at_call 94; refine (HO.out _).mono ?_; rintro e w1 ⟨rfl, hb1⟩; have H1 := hid (H0.out.2.trans (hb1.mono H0.out.2.size)); clear hb1)
  all_goals go_ret
  all_goals refine ⟨ret_bool ?_, by first | exact H1.out | exact H0.out.2⟩
  all_goals (rw [HBe.out, rightB, HOe.out, Bool.eq_iff_iff]; simp; try omega)
set_option maxRecDepth 100000 in
set_option maxHeartbeats 6400000 in
theorem dnull_any (r : Rq) (w : World) : Calls Try.prog 80 #[.agg #[.int .i64 r.c, .int .i64 r.st, .int .i64 r.k, .string r.key, .float .f64 r.b, .int .i64 r.id]] w fun e w' => e = .returned (.bool (nullB r)) ∧ Below w.heap.size w w' := by
  obtain ⟨c, st, k, key, b, id⟩ := r
  simp only
  have HP := fun (k id : Int) (u : World) => dplain_any ⟨c, st, k, key, b, id⟩ u
  simp only at HP
  have HPk : ∀ k id, plainB ⟨c, st, k, key, b, id⟩ = plainB ⟨c, st, 0, key, b, 0⟩ := fun _ _ => rfl
  simp only [HPk] at HP
  have HPh := hid HP
  obtain ⟨B, hB⟩ : ∃ B, nullB ⟨c, st, k, key, b, id⟩ = B := ⟨_, rfl⟩
  have HNe : Hid (B = (((((decide (c = 0) && decide (st = 0)) && decide (k = 0)) && decide (key.size = 0)) && plainB ⟨c, st, 0, key, b, 0⟩) && decide (id = 0))) := hid (by rw [← hB]; rfl)
  rw [hB]
  clear hB HP HPk
  generalize plainB ⟨c, st, 0, key, b, 0⟩ = P at *
  have hz2 := none_size key
  cases hd : decide (key.size = 0) <;> rw [hd] at HNe hz2 <;> cases P <;>
  · clear hd
    go_enter Try.func80, Try.ntmps80
    go_wp2_with (go_at_call 95; refine (HPh.out _ _ _).mono ?_; rintro e w1 ⟨rfl, hb1⟩; have H1 := hid (((Below.refl w.heap.size w).alloc (Nat.le_refl _) _).trans (hb1.mono (by simp))); clear hb1)
    all_goals go_ret
    all_goals refine ⟨ret_bool ?_, by first | exact H1.out | exact (Below.refl w.heap.size w).alloc (Nat.le_refl _) _⟩
    all_goals (rw [HNe.out]; first | (rw [Bool.eq_iff_iff]; simp_all; done) | (rw [Bool.eq_iff_iff]; simp_all; omega))
end Go.Proofs.Ytohhlolmojeomaa

/- The program's writer, as the walks of its users see it: what lies in it, numbers, bits, texts put to it, its end. -/
namespace Go.Proofs.Ytohhlolmojeomaa
open Go.RowKit

/-- The program's writer at block c, with room for lim, l in it, its error er; nothing below c has turned since w0. -/
def PeAt (lim : Int) (c : Nat) (w0 w : World) (l : List UInt8) (er : Int) : Prop := (∃ v, WrAt w c v lim l er) ∧ Below c w0 w
/-- .. with no error. -/
def PwAt (lim : Int) (c : Nat) (w0 w : World) (l : List UInt8) : Prop := (∃ v, WrAt w c v lim l 0) ∧ Below c w0 w
theorem PwAt.pe {lim : Int} {c : Nat} {w0 w : World} {l : List UInt8} (h : PwAt lim c w0 w l) : PeAt lim c w0 w l 0 := h
theorem pwnew (lim : Int) (h0 : 0 ≤ lim) (w : World) : Calls Try.prog 81 #[.int .i64 lim] w fun e w' => e = .returned (.pointer (some ⟨w.heap.size, 0, none⟩)) ∧ PwAt lim w.heap.size w w' [] := by
  refine (new_any lim w).mono ?_
  rintro e w' ⟨rfl, rfl⟩
  rw [show max lim 0 = lim by omega]
  exact ⟨rfl, ⟨_, ⟨heap_alloc_last w _, ⟨rfl, .inl ⟨rfl, rfl⟩⟩⟩⟩, (Below.refl _ _).alloc (Nat.le_refl _) _⟩
theorem pwbyte (lim : Int) (h0 : 0 ≤ lim) (h1 : lim ≤ 4294967296) (c : Nat) (w0 w : World) (l : List UInt8) (n : Nat) (hn : n < 256) (hl : (l.length : Int) + 1 ≤ lim) (h : PwAt lim c w0 w l) :
    Calls Try.prog 82 #[.pointer (some ⟨c, 0, none⟩), .int .i64 (n : Int)] w fun e w' => e = .returned (.tuple #[]) ∧ PwAt lim c w0 w' (l ++ be 1 n) := by
  obtain ⟨⟨v, hv⟩, hb⟩ := h
  refine (wbyte_any c v lim l 0 n w hv h0 (by omega) (by omega) (by omega)).mono ?_
  rintro e w' ⟨rfl, v', h', hk, _⟩
  rw [(wLx lim l 1 n (by omega) hl).1, (wLx lim l 1 n (by omega) hl).2] at h'
  exact ⟨rfl, ⟨v', h'⟩, hb.trans (hk.below (Nat.le_of_lt hv.lt) (Nat.le_refl _) (fun g hg => by have := (hv.own.lt g hg).1; omega))⟩
theorem pwlong (lim : Int) (h0 : 0 ≤ lim) (h1 : lim ≤ 4294967296) (c : Nat) (w0 w : World) (l : List UInt8) (n : Nat) (hn : n < 4294967296) (hl : (l.length : Int) + 4 ≤ lim) (h : PwAt lim c w0 w l) :
    Calls Try.prog 83 #[.pointer (some ⟨c, 0, none⟩), .int .i64 (n : Int)] w fun e w' => e = .returned (.tuple #[]) ∧ PwAt lim c w0 w' (l ++ be 4 n) := by
  obtain ⟨⟨v, hv⟩, hb⟩ := h
  refine (wlong_any c v lim l 0 n w hv h0 (by omega) (by omega) (by omega)).mono ?_
  rintro e w' ⟨rfl, v', h', hk, _⟩
  rw [(wLx lim l 4 n (by omega) hl).1, (wLx lim l 4 n (by omega) hl).2] at h'
  exact ⟨rfl, ⟨v', h'⟩, hb.trans (hk.below (Nat.le_of_lt hv.lt) (Nat.le_refl _) (fun g hg => by have := (hv.own.lt g hg).1; omega))⟩
theorem pelong (lim : Int) (h0 : 0 ≤ lim) (h1 : lim ≤ 4294967296) (c : Nat) (w0 w : World) (l : List UInt8) (er n : Int) (hn : n ≤ 9223372036854775807) (hl : l.length ≤ 4294967296) (h : PeAt lim c w0 w l er) :
    Calls Try.prog 83 #[.pointer (some ⟨c, 0, none⟩), .int .i64 n] w fun e w' => e = .returned (.tuple #[]) ∧ PeAt lim c w0 w' (wL lim l er 4 n) (wE lim l er 4 n) := by
  obtain ⟨⟨v, hv⟩, hb⟩ := h
  refine (wlong_any c v lim l er n w hv h0 (by omega) (by omega) hn).mono ?_
  rintro e w' ⟨rfl, v', h', hk, _⟩
  exact ⟨rfl, ⟨v', h'⟩, hb.trans (hk.below (Nat.le_of_lt hv.lt) (Nat.le_refl _) (fun g hg => by have := (hv.own.lt g hg).1; omega))⟩
theorem pwtext (lim : Int) (h0 : 0 ≤ lim) (h1 : lim ≤ 4294967296) (c : Nat) (w0 w : World) (l : List UInt8) (s : ByteArray) (hs : s.size ≤ 65535) (hl : (l.length : Int) + (2 + s.size) ≤ lim) (h : PwAt lim c w0 w l) :
    Calls Try.prog 84 #[.pointer (some ⟨c, 0, none⟩), .string s] w fun e w' => e = .returned (.tuple #[]) ∧ PwAt lim c w0 w' (l ++ (be 2 s.size ++ s.data.toList)) := by
  obtain ⟨⟨v, hv⟩, hb⟩ := h
  refine (wtext_any c v lim l 0 s w hv h0 (by omega) (by omega) (by omega) (fun _ => by omega)).mono ?_
  rintro e w' ⟨rfl, v', h', hk, _⟩
  rw [(xLx lim l s hs hl).1, (xLx lim l s hs hl).2] at h'
  exact ⟨rfl, ⟨v', h'⟩, hb.trans (hk.below (Nat.le_of_lt hv.lt) (Nat.le_refl _) (fun g hg => by have := (hv.own.lt g hg).1; omega))⟩
theorem pwbits (lim : Int) (h0 : 0 ≤ lim) (h1 : lim ≤ 4294967296) (c : Nat) (w0 w : World) (l : List UInt8) (n : Nat) (hn : n < 18446744073709551616) (hl : (l.length : Int) + 8 ≤ lim) (h : PwAt lim c w0 w l) :
    Calls Try.prog 85 #[.pointer (some ⟨c, 0, none⟩), .int .u64 (n : Int)] w fun e w' => e = .returned (.tuple #[]) ∧ PwAt lim c w0 w' (l ++ be 8 n) := by
  obtain ⟨⟨v, hv⟩, hb⟩ := h
  refine (wbits_any c v lim l 0 n w hv h0 (by omega) (by omega) hn).mono ?_
  rintro e w' ⟨rfl, v', h', hk, _⟩
  rw [(bLx lim l n hl).1, (bLx lim l n hl).2] at h'
  exact ⟨rfl, ⟨v', h'⟩, hb.trans (hk.below (Nat.le_of_lt hv.lt) (Nat.le_refl _) (fun g hg => by have := (hv.own.lt g hg).1; omega))⟩
theorem pwdone (lim : Int) (c : Nat) (w0 w : World) (l : List UInt8) (h : PwAt lim c w0 w l) :
    Calls Try.prog 87 #[.pointer (some ⟨c, 0, none⟩)] w fun e w' => e = .returned (.tuple #[.string ⟨l.toArray⟩, .int .i64 0]) ∧ Below c w0 w' := by
  obtain ⟨⟨v, hv⟩, hb⟩ := h
  refine (done_ok c v lim l w hv).mono ?_
  rintro e w' ⟨rfl, rfl⟩
  exact ⟨rfl, hb⟩
theorem pedone (lim : Int) (c : Nat) (w0 w : World) (l : List UInt8) (er : Int) (he : er ≠ 0) (h : PeAt lim c w0 w l er) :
    Calls Try.prog 87 #[.pointer (some ⟨c, 0, none⟩)] w fun e w' => e = .returned (.tuple #[.string ⟨#[]⟩, .int .i64 er]) ∧ Below c w0 w' := by
  obtain ⟨⟨v, hv⟩, hb⟩ := h
  refine (done_err c v lim l er w hv (by simpa using he)).mono ?_
  rintro e w' ⟨rfl, rfl⟩
  exact ⟨rfl, hb.drew⟩
end Go.Proofs.Ytohhlolmojeomaa

/- The program's text of a request, of a result; are two requests the same. -/
namespace Go.Proofs.Ytohhlolmojeomaa
open Go.RowKit

set_option maxRecDepth 100000 in
set_option maxHeartbeats 6400000 in
theorem dtext_any (r : Rq) (hb : r.b < 18446744073709551616) (w : World) : Calls Try.prog 65 #[.agg #[.int .i64 r.c, .int .i64 r.st, .int .i64 r.k, .string r.key, .float .f64 r.b, .int .i64 r.id]] w fun e' w' => e' = .returned (.tuple #[.string (rqT r), .int .i64 (rqE r)]) ∧ Below w.heap.size w w' := by
  have H0 : Hid (RqAt (w.alloc (.cells #[.int .i64 r.c, .int .i64 r.st, .int .i64 r.k, .string r.key, .float .f64 r.b, .int .i64 r.id] 43)) w.heap.size r ∧ Below w.heap.size w (w.alloc (.cells #[.int .i64 r.c, .int .i64 r.st, .int .i64 r.k, .string r.key, .float .f64 r.b, .int .i64 r.id] 43))) := hid ⟨heap_alloc_last w _, (Below.refl w.heap.size w).alloc (Nat.le_refl _) _⟩
  have HN : Hid (∀ X, nullB r = X → ∀ u, Calls Try.prog 80 #[.agg #[.int .i64 r.c, .int .i64 r.st, .int .i64 r.k, .string r.key, .float .f64 r.b, .int .i64 r.id]] u fun e w' => e = .returned (.bool X) ∧ Below u.heap.size u w') := hid (fun X hX u => by rw [← hX]; exact dnull_any r u)
  have HR : Hid (∀ X, rightB r = X → ∀ u, Calls Try.prog 79 #[.agg #[.int .i64 r.c, .int .i64 r.st, .int .i64 r.k, .string r.key, .float .f64 r.b, .int .i64 r.id]] u fun e w' => e = .returned (.bool X) ∧ Below u.heap.size u w') := hid (fun X hX u => by rw [← hX]; exact dright_any r u)
  cases hN : nullB r with
  | true =>
    rw [show rqT r = ⟨#[0]⟩ by rw [rqT, if_pos hN], show rqE r = 0 by rw [rqE, if_pos hN]]
    have HNb := hid (HN.out _ hN)
    clear hN hb
    go_enter Try.func65, Try.ntmps65
    go_wp2_with (go_at_call 80; refine (HNb.out _).mono ?_; rintro e w1 ⟨rfl, hb1⟩; have H1 := hid (And.intro (H0.out.1.keep hb1) (H0.out.2.trans (hb1.mono H0.out.2.size))); clear hb1; obtain ⟨⟨z0, z1⟩, z2, z3, z4, z5⟩ := H1.out.1.cells)
    go_ret2
    exact ⟨rfl, H1.out.2⟩
  | false =>
    have HNb := hid (HN.out _ hN)
    cases hR : rightB r with
    | false =>
      rw [show rqT r = ⟨#[]⟩ by rw [rqT, hN, hR]; rfl, show rqE r = 1 by rw [rqE, hN, hR]; rfl]
      have HRb := hid (HR.out _ hR)
      clear hN hR hb
      go_enter Try.func65, Try.ntmps65
      go_wp2_with (first
        | (go_at_call 80; refine (HNb.out _).mono ?_; rintro e w1 ⟨rfl, hb1⟩; have H1 := hid (And.intro (H0.out.1.keep hb1) (H0.out.2.trans (hb1.mono H0.out.2.size))); clear hb1; obtain ⟨⟨z0, z1⟩, z2, z3, z4, z5⟩ := H1.out.1.cells)
        | (go_at_call 79; refine (HRb.out _).mono ?_; rintro e w2 ⟨rfl, hb2⟩; have H2 := hid (And.intro (H1.out.1.keep hb2) (H1.out.2.trans (hb2.mono H1.out.2.size))); clear hb2 z0 z1 z2 z3 z4 z5; obtain ⟨⟨z0, z1⟩, z2, z3, z4, z5⟩ := H2.out.1.cells))
      go_ret2
      exact ⟨rfl, H2.out.2⟩
    | true =>
      rw [show rqT r = ⟨(rqL r).toArray⟩ by rw [rqT, hN, hR]; rfl, show rqE r = 0 by rw [rqE, hN, hR]; rfl]
      have HRb := hid (HR.out _ hR)
      obtain ⟨⟨c1, c2⟩, ⟨s1, s2⟩, ⟨k1, k2⟩, hk, i1, i2⟩ := right_fields hR
      have HZ := hid (And.intro hk (canW_lt hb))
      obtain ⟨C, eC⟩ : ∃ C : Nat, r.c = (C : Int) := ⟨r.c.toNat, by omega⟩
      obtain ⟨S, eS⟩ : ∃ S : Nat, r.st = (S : Int) := ⟨r.st.toNat, by omega⟩
      obtain ⟨N, eN⟩ : ∃ N : Nat, r.k = (N : Int) := ⟨r.k.toNat, by omega⟩
      obtain ⟨I, eI⟩ : ∃ I : Nat, r.id = (I : Int) := ⟨r.id.toNat, by omega⟩
      have HF : Hid ((C < 256 ∧ S < 4294967296 ∧ N < 256 ∧ I < 256) ∧ rqL r = be 1 1 ++ (be 1 C ++ (be 4 S ++ (be 1 N ++ (be 2 r.key.size ++ (r.key.data.toList ++ (be 8 (canW r.b) ++ be 1 I))))))) := hid ⟨by omega, by rw [rqL, eC, eS, eN, eI]; rfl⟩
      clear c1 c2 s1 s2 k1 k2 hk i1 i2 hN hR hb
      obtain ⟨c, st, k, key, b, id⟩ := r
      simp only at eC eS eN eI HF HZ H0 HN HR HNb HRb ⊢
      subst eC eS eN eI
      have HKB : Hid (∀ u, Calls Try.prog 86 #[.float .f64 b] u fun e w' => e = .returned (.int .u64 (canW b : Nat)) ∧ w' = u) := hid (fun u => bits_any b u)
      generalize canW b = W8 at HF HZ HKB
      go_enter Try.func65, Try.ntmps65
      go_wp2_with (first
        | (go_at_call 80; refine (HNb.out _).mono ?_; rintro e w1 ⟨rfl, hb1⟩; have H1 := hid (And.intro (H0.out.1.keep hb1) (H0.out.2.trans (hb1.mono H0.out.2.size))); clear hb1; obtain ⟨⟨z0, z1⟩, z2, z3, z4, z5⟩ := H1.out.1.cells)
        | (go_at_call 79; refine (HRb.out _).mono ?_; rintro e w2 ⟨rfl, hb2⟩; have H2 := hid (And.intro (H1.out.1.keep hb2) (H1.out.2.trans (hb2.mono H1.out.2.size))); clear hb2 z0 z1 z2 z3 z4 z5; obtain ⟨⟨z0, z1⟩, z2, z3, z4, z5⟩ := H2.out.1.cells)
        | (go_at_call 81; refine (pwnew 34 (by decide) _).mono ?_; rintro e w3 ⟨rfl, h3⟩; have T0 := hid h3; clear h3; have HQT0 : Hid (RqAt w3 w.heap.size ⟨C, S, N, key, b, I⟩) := hid (((T0.out.2).block _ (lt_of_blk H2.out.1)).trans H2.out.1); (try clear z0 z1 z2 z3 z4 z5); obtain ⟨⟨z0, z1⟩, z2, z3, z4, z5⟩ := HQT0.out.cells)
        | (go_at_call 82; have := T6; refine (pwbyte 34 (by decide) (by decide) _ _ _ ([] ++ be 1 1 ++ be 1 C ++ be 4 S ++ be 1 N ++ (be 2 key.size ++ key.data.toList) ++ be 8 W8) I (by have := HF.out.1.2.2.2; omega) (by have := HZ.out.1; simp only [List.length_append, List.length_nil, be_len]; (try rw [data_len]); omega) (by exact T6.out)).mono ?_; rintro e v6 ⟨rfl, h6⟩; have T7 := hid h6; clear h6; have HQT7 : Hid (RqAt v6 w.heap.size ⟨C, S, N, key, b, I⟩) := hid (((T7.out.2).block _ (lt_of_blk H2.out.1)).trans H2.out.1); (try clear z0 z1 z2 z3 z4 z5); obtain ⟨⟨z0, z1⟩, z2, z3, z4, z5⟩ := HQT7.out.cells)
        | (go_at_call 85; have := T5; refine (pwbits 34 (by decide) (by decide) _ _ _ ([] ++ be 1 1 ++ be 1 C ++ be 4 S ++ be 1 N ++ (be 2 key.size ++ key.data.toList)) W8 HZ.out.2 (by have := HZ.out.1; simp only [List.length_append, List.length_nil, be_len]; (try rw [data_len]); omega) (by exact T5.out)).mono ?_; rintro e v5 ⟨rfl, h5⟩; have T6 := hid h5; clear h5; have HQT6 : Hid (RqAt v5 w.heap.size ⟨C, S, N, key, b, I⟩) := hid (((T6.out.2).block _ (lt_of_blk H2.out.1)).trans H2.out.1); (try clear z0 z1 z2 z3 z4 z5); obtain ⟨⟨z0, z1⟩, z2, z3, z4, z5⟩ := HQT6.out.cells)
        | (go_at_call 84; have := T4; refine (pwtext 34 (by decide) (by decide) _ _ _ ([] ++ be 1 1 ++ be 1 C ++ be 4 S ++ be 1 N) key (by have := HZ.out.1; omega) (by have := HZ.out.1; simp only [List.length_append, List.length_nil, be_len]; (try rw [data_len]); omega) (by exact T4.out)).mono ?_; rintro e v4 ⟨rfl, h4⟩; have T5 := hid h4; clear h4; have HQT5 : Hid (RqAt v4 w.heap.size ⟨C, S, N, key, b, I⟩) := hid (((T5.out.2).block _ (lt_of_blk H2.out.1)).trans H2.out.1); (try clear z0 z1 z2 z3 z4 z5); obtain ⟨⟨z0, z1⟩, z2, z3, z4, z5⟩ := HQT5.out.cells)
        | (go_at_call 82; have := T3; refine (pwbyte 34 (by decide) (by decide) _ _ _ ([] ++ be 1 1 ++ be 1 C ++ be 4 S) N (by have := HF.out.1.2.2.1; omega) (by have := HZ.out.1; simp only [List.length_append, List.length_nil, be_len]; (try rw [data_len]); omega) (by exact T3.out)).mono ?_; rintro e v3 ⟨rfl, h3⟩; have T4 := hid h3; clear h3; have HQT4 : Hid (RqAt v3 w.heap.size ⟨C, S, N, key, b, I⟩) := hid (((T4.out.2).block _ (lt_of_blk H2.out.1)).trans H2.out.1); (try clear z0 z1 z2 z3 z4 z5); obtain ⟨⟨z0, z1⟩, z2, z3, z4, z5⟩ := HQT4.out.cells)
        | (go_at_call 83; have := T2; refine (pwlong 34 (by decide) (by decide) _ _ _ ([] ++ be 1 1 ++ be 1 C) S (by have := HF.out.1.2.1; omega) (by have := HZ.out.1; simp only [List.length_append, List.length_nil, be_len]; (try rw [data_len]); omega) (by exact T2.out)).mono ?_; rintro e v2 ⟨rfl, h2⟩; have T3 := hid h2; clear h2; have HQT3 : Hid (RqAt v2 w.heap.size ⟨C, S, N, key, b, I⟩) := hid (((T3.out.2).block _ (lt_of_blk H2.out.1)).trans H2.out.1); (try clear z0 z1 z2 z3 z4 z5); obtain ⟨⟨z0, z1⟩, z2, z3, z4, z5⟩ := HQT3.out.cells)
        | (go_at_call 82; have := T1; refine (pwbyte 34 (by decide) (by decide) _ _ _ ([] ++ be 1 1) C (by have := HF.out.1.1; omega) (by have := HZ.out.1; simp only [List.length_append, List.length_nil, be_len]; (try rw [data_len]); omega) (by exact T1.out)).mono ?_; rintro e v1 ⟨rfl, h1⟩; have T2 := hid h1; clear h1; have HQT2 : Hid (RqAt v1 w.heap.size ⟨C, S, N, key, b, I⟩) := hid (((T2.out.2).block _ (lt_of_blk H2.out.1)).trans H2.out.1); (try clear z0 z1 z2 z3 z4 z5); obtain ⟨⟨z0, z1⟩, z2, z3, z4, z5⟩ := HQT2.out.cells)
        | (go_at_call 82; have := T0; refine (pwbyte 34 (by decide) (by decide) _ _ _ [] 1 (by decide) (by decide) (by exact T0.out)).mono ?_; rintro e v0 ⟨rfl, h0⟩; have T1 := hid h0; clear h0; have HQT1 : Hid (RqAt v0 w.heap.size ⟨C, S, N, key, b, I⟩) := hid (((T1.out.2).block _ (lt_of_blk H2.out.1)).trans H2.out.1); (try clear z0 z1 z2 z3 z4 z5); obtain ⟨⟨z0, z1⟩, z2, z3, z4, z5⟩ := HQT1.out.cells)
        | (go_at_call 86; refine (HKB.out _).mono ?_; rintro e w9 ⟨rfl, rfl⟩)
        | (go_at_call 87; refine (pwdone 34 _ _ _ _ (by exact T7.out)).mono ?_; rintro e wd ⟨rfl, hd⟩; have HDn := hid (H2.out.2.trans (hd.mono H2.out.2.size)); clear hd))
      go_ret2
      refine ⟨?_, HDn.out⟩
      rw [HF.out.2]
      rfl
end Go.Proofs.Ytohhlolmojeomaa

/- The program's counts. -/
namespace Go.Proofs.Ytohhlolmojeomaa
open Go.RowKit

theorem cfaults_same (n : Int) (hn : n ≤ 9223372036854775807) (w : World) : Calls Try.prog 15 #[.int .i64 n] w fun e w' => e = .returned (.int .i64 (fltZ n)) ∧ w' = w := by
  by_cases h : n < 1
  · rw [fltZ_lo h]
    go_enter Try.func15, Try.ntmps15
    go_wp2
    go_ret
    exact ⟨rfl, rfl⟩
  · have HF : Hid (fltZ n = (n - 1) / 3) := hid (fltZ_hi h)
    rw [HF.out]
    go_enter Try.func15, Try.ntmps15
    go_wp2
    go_ret
    exact ⟨rfl, rfl⟩
theorem cfaults_any (n : Int) (hn : n ≤ 9223372036854775807) (w : World) : Calls Try.prog 15 #[.int .i64 n] w fun e w' => e = .returned (.int .i64 (fltZ n)) ∧ Below w.heap.size w w' :=
  (cfaults_same n hn w).mono fun _ _ ⟨h1, h2⟩ => ⟨h1, by rw [h2]; exact Below.refl _ _⟩
theorem cquorum_any (n : Int) (hn : n ≤ 9223372036854775807) (w : World) : Calls Try.prog 39 #[.int .i64 n] w fun e w' => e = .returned (.int .i64 (quoZ n)) ∧ Below w.heap.size w w' := by
  have HC : Hid (∀ u : World, Calls Try.prog 15 #[.int .i64 n] u fun e w' => e = .returned (.int .i64 (fltZ n)) ∧ w' = u) := hid (cfaults_same n hn)
  by_cases h : n < 1
  · rw [quoZ_lo h]
    go_enter Try.func39, Try.ntmps39
    go_wp2
    go_ret
    exact ⟨rfl, Below.refl _ _⟩
  · rw [quoZ_hi h]
    have hf := fltZ_le h
    generalize fltZ n = f at HC hf ⊢
    have h1 : 0 ≤ f := hf.1
    have h2 : f ≤ 4000000000000000000 := by omega
    have h3 : f ≤ n := by omega
    have HQ : Hid ((n + f) / 2 + 1 = f + (n - f) / 2 + 1) := hid (by omega)
    rw [HQ.out]
    clear hf
    go_enter Try.func39, Try.ntmps39
    go_wp2_with (go_at_call 15; refine (HC.out _).mono ?_; rintro e wx ⟨rfl, rfl⟩)
    go_ret
    exact ⟨rfl, Below.refl _ _⟩
end Go.Proofs.Ytohhlolmojeomaa

/- The program's: who may be a member, which members are right. -/
namespace Go.Proofs.Ytohhlolmojeomaa
open Go.RowKit

def isIdB (id : Int) : Bool := decide (0 ≤ id ∧ id < 16)
theorem cisID_any (id : Int) (w : World) : Calls Try.prog 68 #[.int .i64 id] w fun e w' => e = .returned (.bool (isIdB id)) ∧ w' = w := by
  by_cases h0 : 0 ≤ id
  · by_cases h1 : id < 16
    · have HF : Hid (isIdB id = true) := hid (decide_eq_true ⟨h0, h1⟩)
      rw [HF.out]
      go_enter Try.func68, Try.ntmps68
      go_wp2
      go_ret
      exact ⟨rfl, rfl⟩
    · have HF : Hid (isIdB id = false) := hid (decide_eq_false (fun h => h1 h.2))
      rw [HF.out]
      go_enter Try.func68, Try.ntmps68
      go_wp2
      go_ret
      exact ⟨rfl, rfl⟩
  · have HF : Hid (isIdB id = false) := hid (decide_eq_false (fun h => h0 h.1))
    rw [HF.out]
    go_enter Try.func68, Try.ntmps68
    go_wp2
    go_ret
    exact ⟨rfl, rfl⟩
set_option maxRecDepth 100000 in
set_option maxHeartbeats 3200000 in
theorem careRight_any (a : Option Addr) (n cap : Nat) (l : List Int) (hn : l.length = n) (hm : n ≤ maxLen) (w : World) (hI : IntsIn w a l) :
    Calls Try.prog 53 #[.slice a n cap] w fun e w' => e = .returned (.bool (memB l)) ∧ Below w.heap.size w w' := by
  have hm2 : (n : Int) ≤ 9223372036854775807 := by unfold maxLen at hm; omega
  have HI := hid hI
  have HN := hid hn
  clear hI hm hn
  by_cases h4 : n < 4
  · have k4 : (n : Int) < 4 := by omega
    have HF : Hid (memB l = false) := hid (by rw [memB, HN.out, decide_eq_false (fun h => by omega)]; simp)
    rw [HF.out]
    go_enter Try.func53, Try.ntmps53
    go_wp2
    go_ret
    exact ⟨rfl, Below.refl _ _⟩
  by_cases h10 : 10 < n
  · have k4 : ¬ ((n : Int) < 4) := by omega
    have k10 : (10 : Int) < (n : Int) := by omega
    have HF : Hid (memB l = false) := hid (by rw [memB, HN.out, decide_eq_false (fun h => by omega)]; simp)
    rw [HF.out]
    go_enter Try.func53, Try.ntmps53
    go_wp2
    go_ret
    exact ⟨rfl, Below.refl _ _⟩
  have k4 : ¬ ((n : Int) < 4) := by omega
  have k10 : ¬ ((10 : Int) < (n : Int)) := by omega
  have HQ := hid (And.intro h4 h10)
  clear h4 h10
  go_enter Try.func53, Try.ntmps53
  go_wp2
  go_loopw [15] (fun i wr => ∃ j : Nat, j ≤ n ∧ i = .int .i64 (j : Int) ∧ okTo l j = true ∧ wr = w)
    (fun i _ => ((n : Int) - intOf i).toNat)
  case atStart => exact ⟨0, by omega, rfl, rfl, rfl⟩
  case round =>
    obtain ⟨j, hj, rfl, hok, rfl⟩ := hrel
    by_cases hjn : j = n
    · have hj1 : ¬ ((j : Int) < (n : Int)) := by omega
      rw [hjn] at hok
      have HF : Hid (memB l = true) := hid (by have hq := HQ.out; rw [memB, HN.out, hok, decide_eq_true (And.intro (by omega) (by omega))]; rfl)
      clear hok hj hjn
      go_wp2
      go_ret
      exact ⟨by rw [HF.out]; rfl, Below.refl _ _⟩
    · have hj1 : (j : Int) < (n : Int) := by omega
      have hj0 : (0 : Int) ≤ (j : Int) := Int.natCast_nonneg _
      have hget : l[j]? = some (l.getD j 0) := by rw [List.getD_eq_getElem?_getD, List.getElem?_eq_getElem (by rw [HN.out]; omega)]; rfl
      obtain ⟨g, off, rfl, hg, hcell⟩ := HI.out.at j _ hget
      obtain ⟨x, ex⟩ : ∃ x, x = l.getD j 0 := ⟨_, rfl⟩
      rw [← ex] at hcell
      clear hget
      cases hx : isIdB x with
      | false =>
        have hx2 := of_decide_eq_false hx
        have HC : Hid (∀ u : World, Calls Try.prog 68 #[.int .i64 x] u fun e w' => e = .returned (.bool false) ∧ w' = u) := hid (fun u => by rw [← hx]; exact cisID_any x u)
        have HF : Hid (okTo l n = false) := hid (okTo_false l (j + 1) n (by rw [okTo_succ, okAt_no1 l j (by rw [← ex]; exact hx2)]; simp) (by omega))
        clear hok hj hjn ex hx hx2 hg
        go_wp2_with (go_at_call 68; refine (HC.out _).mono ?_; rintro e wx ⟨rfl, rfl⟩)
        go_ret
        exact ⟨by rw [memB, HN.out, HF.out]; rfl, Below.refl _ _⟩
      | true =>
        have hx2 := of_decide_eq_true hx
        have HC : Hid (∀ u : World, Calls Try.prog 68 #[.int .i64 x] u fun e w' => e = .returned (.bool true) ∧ w' = u) := hid (fun u => by rw [← hx]; exact cisID_any x u)
        by_cases hz : j = 0
        · have d4 : ¬ ((0 : Int) < (j : Int)) := by omega
          have HF : Hid (okTo l (j + 1) = true) := hid (by rw [okTo_succ, hok, show okAt l j = true by (have hx : l.getD 0 0 = x := by rw [ex, hz]); rw [hz]; exact okAt_yes0 l (by rw [hx]; exact hx2)]; rfl)
          have HJ := hid (And.intro hj hjn)
          clear hok hj hjn ex hz hx hx2 hg
          go_wp2_with (go_at_call 68; refine (HC.out _).mono ?_; rintro e wx ⟨rfl, rfl⟩)
          go_roundw
          case rel => exact ⟨j + 1, by have := HJ.out; omega, by go_num, HF.out, by first | exact rfl | exact trivial⟩
          case measure => simp [intOf]; omega
        · obtain ⟨i, rfl⟩ : ∃ i, j = i + 1 := ⟨j - 1, by omega⟩
          have hgetp : l[i]? = some (l.getD i 0) := by rw [List.getD_eq_getElem?_getD, List.getElem?_eq_getElem (by rw [HN.out]; omega)]; rfl
          obtain ⟨g', off', eg, hg', hcellp⟩ := HI.out.at i _ hgetp
          obtain ⟨rfl, rfl⟩ : g = g' ∧ off = off' := by simp at eg; exact eg
          obtain ⟨y, ey⟩ : ∃ y, y = l.getD i 0 := ⟨_, rfl⟩
          rw [← ey] at hcellp
          have hi0 : (0 : Int) < ((i + 1 : Nat) : Int) := by omega
          have hi1 : (i : Int) < (n : Int) := by omega
          have hi2 : (0 : Int) ≤ (i : Int) := by omega
          clear hgetp eg hz hg hg' hx
          by_cases hxy : x ≤ y
          · have HF : Hid (okTo l n = false) := hid (okTo_false l (i + 1 + 1) n (by rw [okTo_succ, okAt_no2 l (i + 1) (by omega) (by rw [← ex, show i + 1 - 1 = i from rfl, ← ey]; omega)]; simp) (by omega))
            clear hok hj hjn ex ey hx2
            go_wp2_with (go_at_call 68; refine (HC.out _).mono ?_; rintro e wx ⟨rfl, rfl⟩)
            go_ret
            exact ⟨by rw [memB, HN.out, HF.out]; rfl, Below.refl _ _⟩
          · have HF : Hid (okTo l (i + 1 + 1) = true) := hid (by rw [okTo_succ, hok, okAt_yes l (i + 1) (by rw [← ex]; exact hx2) (by rw [← ex, show i + 1 - 1 = i from rfl, ← ey]; omega)]; rfl)
            have HJ := hid (And.intro hj hjn)
            clear hok hj hjn ex ey hx2
            go_wp2_with (go_at_call 68; refine (HC.out _).mono ?_; rintro e wx ⟨rfl, rfl⟩)
            go_roundw
            case rel => exact ⟨i + 1 + 1, by have := HJ.out; omega, by go_num, HF.out, by first | exact rfl | exact trivial⟩
            case measure => simp [intOf]; omega
end Go.Proofs.Ytohhlolmojeomaa

/- The program's council: which configurations are right. -/
namespace Go.Proofs.Ytohhlolmojeomaa
open Go.RowKit

set_option maxRecDepth 100000 in
set_option maxHeartbeats 1600000 in
theorem cright_any (ep : Int) (a : Option Addr) (n cap : Nat) (l : List Int) (hn : l.length = n) (hm : n ≤ maxLen) (w : World) (hI : IntsIn w a l) :
    Calls Try.prog 31 #[.agg #[.int .i64 ep, .slice a n cap]] w fun e w' => e = .returned (.bool (rightC ep l)) ∧ Below w.heap.size w w' := by
  by_cases h0 : 0 ≤ ep
  · by_cases h60 : ep ≤ 60
    · have HM : Hid (∀ u : World, IntsIn u a l → Calls Try.prog 53 #[.slice a n cap] u fun e w' => e = .returned (.bool (memB l)) ∧ Below u.heap.size u w') := hid (fun u hu => careRight_any a n cap l hn hm u hu)
      have HR : Hid (rightC ep l = memB l) := hid (by rw [rightC, decide_eq_true (And.intro h0 h60)]; rfl)
      have HI := hid hI
      rw [HR.out]
      generalize memB l = b at HM
      clear hI hn hm
      go_enter Try.func31, Try.ntmps31
      go_wp2_with (go_at_call 53; refine (HM.out _ (by exact HI.out.alloc _)).mono ?_; rintro e w1 ⟨rfl, hb1⟩; have H1 := hid (((Below.refl w.heap.size w).alloc (Nat.le_refl _) _).trans (hb1.mono (by simp))); clear hb1)
      go_ret
      exact ⟨rfl, H1.out⟩
    · have HR : Hid (rightC ep l = false) := hid (by rw [rightC, decide_eq_false (fun h => h60 h.2)]; rfl)
      rw [HR.out]
      clear hI hn hm
      go_enter Try.func31, Try.ntmps31
      go_wp2
      go_ret
      exact ⟨rfl, (Below.refl _ _).alloc (Nat.le_refl _) _⟩
  · have HR : Hid (rightC ep l = false) := hid (by rw [rightC, decide_eq_false (fun h => h0 h.1)]; rfl)
    rw [HR.out]
    clear hI hn hm
    go_enter Try.func31, Try.ntmps31
    go_wp2
    go_ret
    exact ⟨rfl, (Below.refl _ _).alloc (Nat.le_refl _) _⟩
end Go.Proofs.Ytohhlolmojeomaa

/- What the program reads any bytes as: a request, a result. -/
namespace Go.Proofs.Ytohhlolmojeomaa
open Go.RowKit

theorem rq_c {w : World} {b : Nat} {r : Rq} (h : RqAt w b r) (v : Int) : RqAt (w.setCell ⟨b, 0, none⟩ (.int .i64 v)) b { r with c := v } := (blk_set h 0 _).trans (by simp)
/-- While bytes are read: the result's block, the program's reader at x. -/
structure QrSt (w0 w : World) (x : Rd) : Prop where
  res : RqAt w w0.heap.size zeroQ
  rd : RdAt w (w0.heap.size + 1) x.s x.sh
  bel : Below w0.heap.size w0 w
theorem QrSt.kept {w0 w w' : World} {x y : Rd} (h : QrSt w0 w x) (k : Kept (w0.heap.size + 1) none w w') (hr : RdAt w' (w0.heap.size + 1) y.s y.sh) : QrSt w0 w' y :=
  ⟨(k.block _ (lt_of_blk h.res) (by omega) (by simp)).trans h.res, hr, h.bel.trans (k.below (Nat.le_of_lt (lt_of_blk h.res)) (by omega) (fun g hg => by cases hg))⟩
theorem QrSt.keep {w0 w w' : World} {x : Rd} (h : QrSt w0 w x) (hb : Below w.heap.size w w') : QrSt w0 w' x :=
  ⟨h.res.keep hb, (hb.block _ (lt_of_blk h.rd)).trans h.rd, h.bel.trans (hb.mono h.bel.size)⟩
theorem QrSt.put {w0 w : World} {x : Rd} (h : QrSt w0 w x) {b : Nat} (hb : w0.heap.size + 2 ≤ b) (o : Nat) (v : Value) : QrSt w0 (w.setCell ⟨b, o, none⟩ v) x :=
  ⟨(Below.heap_setCell _ _ _ _ (by simp; omega)).trans h.res, (Below.heap_setCell _ _ _ _ (by simp; omega)).trans h.rd, h.bel.setCell (p := ⟨b, o, none⟩) (by simp; omega) v⟩
/-- .. and what is read so far, at block b. -/
structure QxSt (w0 w : World) (x : Rd) (b : Nat) (r : Rq) : Prop where
  st : QrSt w0 w x
  rq : RqAt w b r
  hb : w0.heap.size + 2 ≤ b
theorem QxSt.st0 {w0 w : World} {x : Rd} {b : Nat} {r : Rq} (h : QxSt w0 w x b r) (v : Int) : QxSt w0 (w.setCell ⟨b, 0, none⟩ (.int .i64 v)) x b { r with c := v } := ⟨h.st.put h.hb 0 _, rq_c h.rq v, h.hb⟩
theorem QxSt.st1 {w0 w : World} {x : Rd} {b : Nat} {r : Rq} (h : QxSt w0 w x b r) (v : Int) : QxSt w0 (w.setCell ⟨b, 1, none⟩ (.int .i64 v)) x b { r with st := v } := ⟨h.st.put h.hb 1 _, rq_st h.rq v, h.hb⟩
theorem QxSt.st2 {w0 w : World} {x : Rd} {b : Nat} {r : Rq} (h : QxSt w0 w x b r) (v : Int) : QxSt w0 (w.setCell ⟨b, 2, none⟩ (.int .i64 v)) x b { r with k := v } := ⟨h.st.put h.hb 2 _, rq_k h.rq v, h.hb⟩
theorem QxSt.st3 {w0 w : World} {x : Rd} {b : Nat} {r : Rq} (h : QxSt w0 w x b r) (v : ByteArray) : QxSt w0 (w.setCell ⟨b, 3, none⟩ (.string v)) x b { r with key := v } := ⟨h.st.put h.hb 3 _, rq_key h.rq v, h.hb⟩
theorem QxSt.st4 {w0 w : World} {x : Rd} {b : Nat} {r : Rq} (h : QxSt w0 w x b r) (v : Nat) : QxSt w0 (w.setCell ⟨b, 4, none⟩ (.float .f64 v)) x b { r with b := v } := ⟨h.st.put h.hb 4 _, rq_b h.rq v, h.hb⟩
theorem QxSt.st5 {w0 w : World} {x : Rd} {b : Nat} {r : Rq} (h : QxSt w0 w x b r) (v : Int) : QxSt w0 (w.setCell ⟨b, 5, none⟩ (.int .i64 v)) x b { r with id := v } := ⟨h.st.put h.hb 5 _, rq_id h.rq v, h.hb⟩
theorem QxSt.kept {w0 w w' : World} {x y : Rd} {b : Nat} {r : Rq} (h : QxSt w0 w x b r) (k : Kept (w0.heap.size + 1) none w w') (hr : RdAt w' (w0.heap.size + 1) y.s y.sh) : QxSt w0 w' y b r :=
  ⟨h.st.kept k hr, (k.block _ (lt_of_blk h.rq) (by have := h.hb; omega) (by simp)).trans h.rq, h.hb⟩
theorem QxSt.keep {w0 w w' : World} {x : Rd} {b : Nat} {r : Rq} (h : QxSt w0 w x b r) (hb : Below w.heap.size w w') : QxSt w0 w' x b r := ⟨h.st.keep hb, h.rq.keep hb, h.hb⟩
set_option maxRecDepth 100000 in
set_option maxHeartbeats 12800000 in
theorem dread_any (t : ByteArray) (_ht : t.size ≤ 9223372036854775807) (w : World) : Calls Try.prog 62 #[.string t] w fun e w' => e = .returned (.tuple #[.agg #[.int .i64 (rdR t).c, .int .i64 (rdR t).st, .int .i64 (rdR t).k, .string (rdR t).key, .float .f64 (rdR t).b, .int .i64 (rdR t).id], .int .i64 (rdE t)]) ∧ Below w.heap.size w w' := by
  have H0 : Hid (RqAt (w.alloc (.cells #[.int .i64 0, .int .i64 0, .int .i64 0, .string ⟨#[]⟩, .float .f64 0, .int .i64 0] 43)) w.heap.size zeroQ ∧ Below w.heap.size w (w.alloc (.cells #[.int .i64 0, .int .i64 0, .int .i64 0, .string ⟨#[]⟩, .float .f64 0, .int .i64 0] 43))) := hid ⟨heap_alloc_last w _, (Below.refl _ _).alloc (Nat.le_refl _) _⟩
  cases hn : isNul t with
  | true =>
    have hn2 : (t.toList == [0]) = true := by rw [ByteArray.toList_eq]; simpa [isNul] using hn
    rw [show rdR t = zeroQ by rw [rdR, if_pos hn], show rdE t = 0 by rw [rdE, if_pos hn]]
    clear hn
    go_enter Try.func62, Try.ntmps62
    go_wp2_with (refine wl_store_rq rfl _ _ rfl w.heap.size rfl zeroQ zeroQ rfl H0.out.1 ?_; intro w1 H1)
    refine ret_pair (s := 2) (s2 := 3) (ad := ⟨w.heap.size, 0, none⟩) rfl rfl (load_rq _ _ zeroQ H1.out.1) rfl rfl ?_
    exact ⟨rfl, H1.out.2.below H0.out.2 (Nat.le_refl _)⟩
  | false =>
    have hn2 : (t.toList == [0]) = false := by rw [ByteArray.toList_eq]; simpa [isNul] using hn
    have HRd : Hid (rdR t = (if okq t then rdq t else zeroQ) ∧ rdE t = (if okq t then 0 else 5)) := hid ⟨by rw [rdR, hn]; rfl, by rw [rdE, hn]; rfl⟩
    have HOk : Hid (okq t = (((decide (rdHead t = 1) && (canW (rdBits t) == rdBits t)) && decide (endOf (rd7 t).s (rd7 t).sh = 0)) && rightB (rdq t))) := hid rfl
    have HR : Hid (∀ (X : Bool), rightB (rdq t) = X → ∀ u, Calls Try.prog 79 #[.agg #[.int .i64 (rdq t).c, .int .i64 (rdq t).st, .int .i64 (rdq t).k, .string (rdq t).key, .float .f64 (rdq t).b, .int .i64 (rdq t).id]] u fun e w' => e = .returned (.bool X) ∧ Below u.heap.size u w') := hid (fun X hX u => by rw [← hX]; exact dright_any (rdq t) u)
    have HFr : Hid (∀ (X : Bool), (canW (rdBits t) == rdBits t) = X → ∀ u, Calls Try.prog 76 #[.int .u64 ((rdBits t : Nat) : Int)] u fun e w' => e = .returned (.tuple #[.float .f64 (fromW (rdBits t)), .bool X]) ∧ w' = u) := hid (fun X hX u => by rw [← hX]; exact from_any (rdBits t) u)
    have hbx := (Below.refl (w.alloc (.cells #[.int .i64 0, .int .i64 0, .int .i64 0, .string ⟨#[]⟩, .float .f64 0, .int .i64 0] 43)).heap.size (w.alloc (.cells #[.int .i64 0, .int .i64 0, .int .i64 0, .string ⟨#[]⟩, .float .f64 0, .int .i64 0] 43))).alloc (Nat.le_refl _) (.cells #[.string t, .bool false] 131)
    have H1 : Hid (QrSt w ((w.alloc (.cells #[.int .i64 0, .int .i64 0, .int .i64 0, .string ⟨#[]⟩, .float .f64 0, .int .i64 0] 43)).alloc (.cells #[.string t, .bool false] 131)) ⟨t, false⟩) := hid ⟨H0.out.1.keep hbx, snd_alloc w _ _, H0.out.2.trans (hbx.mono (by simp))⟩
    clear hn hbx
    by_cases he : endOf (rd7 t).s (rd7 t).sh = 0
    · have heb : (endOf (rd7 t).s (rd7 t).sh != 0) = false := by rw [he]; rfl
      by_cases hh : rdHead t = 1
      · have hhb : ((rN t false 1 : Int) != 1) = false := by have : rN t false 1 = 1 := hh; rw [this]; rfl
        cases hD : (canW (rdBits t) == rdBits t) with
        | false =>
          have HFb := hid (HFr.out _ hD)
          have HV : Hid (rdR t = zeroQ ∧ rdE t = 5) := hid (by rw [HRd.out.1, HRd.out.2, HOk.out, hD]; simp)
          clear hD hh HFr HR HRd HOk he
          go_enter Try.func62, Try.ntmps62
          go_wp2_with (first
            | (have := HRs; refine wl_store_rq rfl _ _ rfl w.heap.size rfl zeroQ zeroQ rfl HRs.out.1 ?_; intro wz Hz)
            | (go_at_call 79; refine (HRb.out _).mono ?_; rintro e w10 ⟨rfl, hb10⟩; have H10 := hid (H9s.out.keep hb10); clear hb10; (try clear z0 z1 z2 z3 z4 z5); obtain ⟨⟨z0, z1⟩, z2, z3, z4, z5⟩ := H10.out.rq.cells; have HRs : Hid (RqAt w10 w.heap.size zeroQ ∧ Below w.heap.size w w10) := hid ⟨H10.out.st.res, H10.out.st.bel⟩)
            | (go_at_call 78; refine (end_any _ _ _ _ H9s.out.st.rd).mono ?_; rintro e w11 ⟨rfl, rfl⟩)
            | (go_at_call 73; have := H8s; refine (rbyte_any _ _ _ _ H8s.out.st.rd).mono ?_; rintro e w9 ⟨rfl, hr, hk⟩; have H9 := hid (H8s.out.kept (y := rd7 t) hk hr); have H9s := hid (H9.out.st5 (rN (rd6 t).s (rd6 t).sh 1 : Int)); clear hr hk; (try clear z0 z1 z2 z3 z4 z5); obtain ⟨⟨z0, z1⟩, z2, z3, z4, z5⟩ := H9.out.rq.cells; have f5 := free_at H9.out.rq 5; have HRs : Hid (RqAt (w9.setCell ⟨w2.heap.size, 5, none⟩ (.int .i64 (rN (rd6 t).s (rd6 t).sh 1 : Int))) w.heap.size zeroQ ∧ Below w.heap.size w (w9.setCell ⟨w2.heap.size, 5, none⟩ (.int .i64 (rN (rd6 t).s (rd6 t).sh 1 : Int)))) := hid ⟨H9s.out.st.res, H9s.out.st.bel⟩)
            | (have := H8; refine wl_store_f rfl _ _ rfl w2.heap.size 4 rfl (fromW (rdBits t)) rfl _ z4 f4 ?_; have H8s := hid (H8.out.st4 (fromW (rdBits t))))
            | (go_at_call 76; refine (HFb.out _).mono ?_; rintro e w12 ⟨rfl, rfl⟩)
            | (go_at_call 77; have := H7s; refine (rbits_any _ _ _ _ H7s.out.st.rd).mono ?_; rintro e w8 ⟨rfl, hr, hk⟩; have H8 := hid (H7s.out.kept (y := rd6 t) hk hr); clear hr hk; (try clear z0 z1 z2 z3 z4 z5); obtain ⟨⟨z0, z1⟩, z2, z3, z4, z5⟩ := H8.out.rq.cells; have f4 := free_at H8.out.rq 4; clear z0 z1 z2 z3 z5)
            | (go_at_call 75; have := H6s; refine (rtext_any _ _ _ _ H6s.out.st.rd).mono ?_; rintro e w7 ⟨rfl, hr, hk⟩; have H7 := hid (H6s.out.kept (y := rd5 t) hk hr); have H7s := hid (H7.out.st3 (tT (rd4 t).s (rd4 t).sh)); clear hr hk; (try clear z0 z1 z2 z3 z4 z5); obtain ⟨⟨z0, z1⟩, z2, z3, z4, z5⟩ := H7.out.rq.cells; have f3 := free_at H7.out.rq 3; clear z0 z1 z2 z4 z5)
            | (go_at_call 73; have := H5s; refine (rbyte_any _ _ _ _ H5s.out.st.rd).mono ?_; rintro e w6 ⟨rfl, hr, hk⟩; have H6 := hid (H5s.out.kept (y := rd4 t) hk hr); have H6s := hid (H6.out.st2 (rN (rd3 t).s (rd3 t).sh 1 : Int)); clear hr hk; (try clear z0 z1 z2 z3 z4 z5); obtain ⟨⟨z0, z1⟩, z2, z3, z4, z5⟩ := H6.out.rq.cells; have f2 := free_at H6.out.rq 2; clear z0 z1 z3 z4 z5)
            | (go_at_call 74; have := H4s; refine (rlong_any _ _ _ _ H4s.out.st.rd).mono ?_; rintro e w5 ⟨rfl, hr, hk⟩; have H5 := hid (H4s.out.kept (y := rd3 t) hk hr); have H5s := hid (H5.out.st1 (rN (rd2 t).s (rd2 t).sh 4 : Int)); clear hr hk; (try clear z0 z1 z2 z3 z4 z5); obtain ⟨⟨z0, z1⟩, z2, z3, z4, z5⟩ := H5.out.rq.cells; have f1 := free_at H5.out.rq 1; clear z0 z2 z3 z4 z5)
            | (go_at_call 73; have := H3; refine (rbyte_any _ _ _ _ H3.out.st.rd).mono ?_; rintro e w4 ⟨rfl, hr, hk⟩; have H4 := hid (H3.out.kept (y := rd2 t) hk hr); have H4s := hid (H4.out.st0 (rN (rd1 t).s (rd1 t).sh 1 : Int)); clear hr hk; (try clear z0 z1 z2 z3 z4 z5); obtain ⟨⟨z0, z1⟩, z2, z3, z4, z5⟩ := H4.out.rq.cells; have f0 := free_at H4.out.rq 0; clear z1 z2 z3 z4 z5)
            | (go_at_call 73; refine (rbyte_any _ _ _ _ H1.out.rd).mono ?_; rintro e w2 ⟨rfl, hr, hk⟩; have H2 := hid (H1.out.kept (y := rd1 t) hk hr); clear hr hk; have hax := (Below.refl w2.heap.size w2).alloc (Nat.le_refl _) (.cells #[.int .i64 0, .int .i64 0, .int .i64 0, .string ⟨#[]⟩, .float .f64 0, .int .i64 0] 43); have H3 : Hid (QxSt w (w2.alloc (.cells #[.int .i64 0, .int .i64 0, .int .i64 0, .string ⟨#[]⟩, .float .f64 0, .int .i64 0] 43)) (rd1 t) w2.heap.size zeroQ) := hid ⟨H2.out.keep hax, heap_alloc_last w2 _, lt_of_blk H2.out.rd⟩; clear hax)
            | (go_at_call 72; refine (read_any _ _).mono ?_; rintro e w1 ⟨rfl, rfl⟩))
          refine ret_pair (s := 2) (s2 := 3) (ad := ⟨w.heap.size, 0, none⟩) rfl rfl (load_rq _ _ zeroQ Hz.out.1) rfl rfl ?_
          refine ⟨?_, Hz.out.2.below HRs.out.2 (Nat.le_refl _)⟩
          rw [HV.out.1, HV.out.2]
          rfl
        | true =>
          have HFb := hid (HFr.out _ hD)
          cases hX : rightB (rdq t) with
          | false =>
            have HRb := hid (HR.out _ hX)
            have HV : Hid (rdR t = zeroQ ∧ rdE t = 5) := hid (by rw [HRd.out.1, HRd.out.2, HOk.out, hX]; simp)
            clear hD hh HFr HR HRd HOk hX he
            go_enter Try.func62, Try.ntmps62
            go_wp2_with (first
              | (have := HRs; refine wl_store_rq rfl _ _ rfl w.heap.size rfl zeroQ zeroQ rfl HRs.out.1 ?_; intro wz Hz)
              | (go_at_call 79; refine (HRb.out _).mono ?_; rintro e w10 ⟨rfl, hb10⟩; have H10 := hid (H9s.out.keep hb10); clear hb10; (try clear z0 z1 z2 z3 z4 z5); obtain ⟨⟨z0, z1⟩, z2, z3, z4, z5⟩ := H10.out.rq.cells; have HRs : Hid (RqAt w10 w.heap.size zeroQ ∧ Below w.heap.size w w10) := hid ⟨H10.out.st.res, H10.out.st.bel⟩)
              | (go_at_call 78; refine (end_any _ _ _ _ H9s.out.st.rd).mono ?_; rintro e w11 ⟨rfl, rfl⟩)
              | (go_at_call 73; have := H8s; refine (rbyte_any _ _ _ _ H8s.out.st.rd).mono ?_; rintro e w9 ⟨rfl, hr, hk⟩; have H9 := hid (H8s.out.kept (y := rd7 t) hk hr); have H9s := hid (H9.out.st5 (rN (rd6 t).s (rd6 t).sh 1 : Int)); clear hr hk; (try clear z0 z1 z2 z3 z4 z5); obtain ⟨⟨z0, z1⟩, z2, z3, z4, z5⟩ := H9.out.rq.cells; have f5 := free_at H9.out.rq 5; have HRs : Hid (RqAt (w9.setCell ⟨w2.heap.size, 5, none⟩ (.int .i64 (rN (rd6 t).s (rd6 t).sh 1 : Int))) w.heap.size zeroQ ∧ Below w.heap.size w (w9.setCell ⟨w2.heap.size, 5, none⟩ (.int .i64 (rN (rd6 t).s (rd6 t).sh 1 : Int)))) := hid ⟨H9s.out.st.res, H9s.out.st.bel⟩)
              | (have := H8; refine wl_store_f rfl _ _ rfl w2.heap.size 4 rfl (fromW (rdBits t)) rfl _ z4 f4 ?_; have H8s := hid (H8.out.st4 (fromW (rdBits t))))
              | (go_at_call 76; refine (HFb.out _).mono ?_; rintro e w12 ⟨rfl, rfl⟩)
              | (go_at_call 77; have := H7s; refine (rbits_any _ _ _ _ H7s.out.st.rd).mono ?_; rintro e w8 ⟨rfl, hr, hk⟩; have H8 := hid (H7s.out.kept (y := rd6 t) hk hr); clear hr hk; (try clear z0 z1 z2 z3 z4 z5); obtain ⟨⟨z0, z1⟩, z2, z3, z4, z5⟩ := H8.out.rq.cells; have f4 := free_at H8.out.rq 4; clear z0 z1 z2 z3 z5)
              | (go_at_call 75; have := H6s; refine (rtext_any _ _ _ _ H6s.out.st.rd).mono ?_; rintro e w7 ⟨rfl, hr, hk⟩; have H7 := hid (H6s.out.kept (y := rd5 t) hk hr); have H7s := hid (H7.out.st3 (tT (rd4 t).s (rd4 t).sh)); clear hr hk; (try clear z0 z1 z2 z3 z4 z5); obtain ⟨⟨z0, z1⟩, z2, z3, z4, z5⟩ := H7.out.rq.cells; have f3 := free_at H7.out.rq 3; clear z0 z1 z2 z4 z5)
              | (go_at_call 73; have := H5s; refine (rbyte_any _ _ _ _ H5s.out.st.rd).mono ?_; rintro e w6 ⟨rfl, hr, hk⟩; have H6 := hid (H5s.out.kept (y := rd4 t) hk hr); have H6s := hid (H6.out.st2 (rN (rd3 t).s (rd3 t).sh 1 : Int)); clear hr hk; (try clear z0 z1 z2 z3 z4 z5); obtain ⟨⟨z0, z1⟩, z2, z3, z4, z5⟩ := H6.out.rq.cells; have f2 := free_at H6.out.rq 2; clear z0 z1 z3 z4 z5)
              | (go_at_call 74; have := H4s; refine (rlong_any _ _ _ _ H4s.out.st.rd).mono ?_; rintro e w5 ⟨rfl, hr, hk⟩; have H5 := hid (H4s.out.kept (y := rd3 t) hk hr); have H5s := hid (H5.out.st1 (rN (rd2 t).s (rd2 t).sh 4 : Int)); clear hr hk; (try clear z0 z1 z2 z3 z4 z5); obtain ⟨⟨z0, z1⟩, z2, z3, z4, z5⟩ := H5.out.rq.cells; have f1 := free_at H5.out.rq 1; clear z0 z2 z3 z4 z5)
              | (go_at_call 73; have := H3; refine (rbyte_any _ _ _ _ H3.out.st.rd).mono ?_; rintro e w4 ⟨rfl, hr, hk⟩; have H4 := hid (H3.out.kept (y := rd2 t) hk hr); have H4s := hid (H4.out.st0 (rN (rd1 t).s (rd1 t).sh 1 : Int)); clear hr hk; (try clear z0 z1 z2 z3 z4 z5); obtain ⟨⟨z0, z1⟩, z2, z3, z4, z5⟩ := H4.out.rq.cells; have f0 := free_at H4.out.rq 0; clear z1 z2 z3 z4 z5)
              | (go_at_call 73; refine (rbyte_any _ _ _ _ H1.out.rd).mono ?_; rintro e w2 ⟨rfl, hr, hk⟩; have H2 := hid (H1.out.kept (y := rd1 t) hk hr); clear hr hk; have hax := (Below.refl w2.heap.size w2).alloc (Nat.le_refl _) (.cells #[.int .i64 0, .int .i64 0, .int .i64 0, .string ⟨#[]⟩, .float .f64 0, .int .i64 0] 43); have H3 : Hid (QxSt w (w2.alloc (.cells #[.int .i64 0, .int .i64 0, .int .i64 0, .string ⟨#[]⟩, .float .f64 0, .int .i64 0] 43)) (rd1 t) w2.heap.size zeroQ) := hid ⟨H2.out.keep hax, heap_alloc_last w2 _, lt_of_blk H2.out.rd⟩; clear hax)
              | (go_at_call 72; refine (read_any _ _).mono ?_; rintro e w1 ⟨rfl, rfl⟩))
            refine ret_pair (s := 2) (s2 := 3) (ad := ⟨w.heap.size, 0, none⟩) rfl rfl (load_rq _ _ zeroQ Hz.out.1) rfl rfl ?_
            refine ⟨?_, Hz.out.2.below HRs.out.2 (Nat.le_refl _)⟩
            rw [HV.out.1, HV.out.2]
            rfl
          | true =>
            have HRb := hid (HR.out _ hX)
            have HV : Hid (rdR t = rdq t ∧ rdE t = 0) := hid (by rw [HRd.out.1, HRd.out.2, HOk.out, hX, hD, hh, he]; simp)
            clear hD hh HFr HR HRd HOk hX he
            go_enter Try.func62, Try.ntmps62
            go_wp2_with (first
              | (have := HRs; refine wl_store_rq rfl _ _ rfl w.heap.size rfl zeroQ (rdq t) rfl HRs.out.1 ?_; intro wz Hz)
              | (go_at_call 79; refine (HRb.out _).mono ?_; rintro e w10 ⟨rfl, hb10⟩; have H10 := hid (H9s.out.keep hb10); clear hb10; (try clear z0 z1 z2 z3 z4 z5); obtain ⟨⟨z0, z1⟩, z2, z3, z4, z5⟩ := H10.out.rq.cells; have HRs : Hid (RqAt w10 w.heap.size zeroQ ∧ Below w.heap.size w w10) := hid ⟨H10.out.st.res, H10.out.st.bel⟩)
              | (go_at_call 78; refine (end_any _ _ _ _ H9s.out.st.rd).mono ?_; rintro e w11 ⟨rfl, rfl⟩)
              | (go_at_call 73; have := H8s; refine (rbyte_any _ _ _ _ H8s.out.st.rd).mono ?_; rintro e w9 ⟨rfl, hr, hk⟩; have H9 := hid (H8s.out.kept (y := rd7 t) hk hr); have H9s := hid (H9.out.st5 (rN (rd6 t).s (rd6 t).sh 1 : Int)); clear hr hk; (try clear z0 z1 z2 z3 z4 z5); obtain ⟨⟨z0, z1⟩, z2, z3, z4, z5⟩ := H9.out.rq.cells; have f5 := free_at H9.out.rq 5; have HRs : Hid (RqAt (w9.setCell ⟨w2.heap.size, 5, none⟩ (.int .i64 (rN (rd6 t).s (rd6 t).sh 1 : Int))) w.heap.size zeroQ ∧ Below w.heap.size w (w9.setCell ⟨w2.heap.size, 5, none⟩ (.int .i64 (rN (rd6 t).s (rd6 t).sh 1 : Int)))) := hid ⟨H9s.out.st.res, H9s.out.st.bel⟩)
              | (have := H8; refine wl_store_f rfl _ _ rfl w2.heap.size 4 rfl (fromW (rdBits t)) rfl _ z4 f4 ?_; have H8s := hid (H8.out.st4 (fromW (rdBits t))))
              | (go_at_call 76; refine (HFb.out _).mono ?_; rintro e w12 ⟨rfl, rfl⟩)
              | (go_at_call 77; have := H7s; refine (rbits_any _ _ _ _ H7s.out.st.rd).mono ?_; rintro e w8 ⟨rfl, hr, hk⟩; have H8 := hid (H7s.out.kept (y := rd6 t) hk hr); clear hr hk; (try clear z0 z1 z2 z3 z4 z5); obtain ⟨⟨z0, z1⟩, z2, z3, z4, z5⟩ := H8.out.rq.cells; have f4 := free_at H8.out.rq 4; clear z0 z1 z2 z3 z5)
              | (go_at_call 75; have := H6s; refine (rtext_any _ _ _ _ H6s.out.st.rd).mono ?_; rintro e w7 ⟨rfl, hr, hk⟩; have H7 := hid (H6s.out.kept (y := rd5 t) hk hr); have H7s := hid (H7.out.st3 (tT (rd4 t).s (rd4 t).sh)); clear hr hk; (try clear z0 z1 z2 z3 z4 z5); obtain ⟨⟨z0, z1⟩, z2, z3, z4, z5⟩ := H7.out.rq.cells; have f3 := free_at H7.out.rq 3; clear z0 z1 z2 z4 z5)
              | (go_at_call 73; have := H5s; refine (rbyte_any _ _ _ _ H5s.out.st.rd).mono ?_; rintro e w6 ⟨rfl, hr, hk⟩; have H6 := hid (H5s.out.kept (y := rd4 t) hk hr); have H6s := hid (H6.out.st2 (rN (rd3 t).s (rd3 t).sh 1 : Int)); clear hr hk; (try clear z0 z1 z2 z3 z4 z5); obtain ⟨⟨z0, z1⟩, z2, z3, z4, z5⟩ := H6.out.rq.cells; have f2 := free_at H6.out.rq 2; clear z0 z1 z3 z4 z5)
              | (go_at_call 74; have := H4s; refine (rlong_any _ _ _ _ H4s.out.st.rd).mono ?_; rintro e w5 ⟨rfl, hr, hk⟩; have H5 := hid (H4s.out.kept (y := rd3 t) hk hr); have H5s := hid (H5.out.st1 (rN (rd2 t).s (rd2 t).sh 4 : Int)); clear hr hk; (try clear z0 z1 z2 z3 z4 z5); obtain ⟨⟨z0, z1⟩, z2, z3, z4, z5⟩ := H5.out.rq.cells; have f1 := free_at H5.out.rq 1; clear z0 z2 z3 z4 z5)
              | (go_at_call 73; have := H3; refine (rbyte_any _ _ _ _ H3.out.st.rd).mono ?_; rintro e w4 ⟨rfl, hr, hk⟩; have H4 := hid (H3.out.kept (y := rd2 t) hk hr); have H4s := hid (H4.out.st0 (rN (rd1 t).s (rd1 t).sh 1 : Int)); clear hr hk; (try clear z0 z1 z2 z3 z4 z5); obtain ⟨⟨z0, z1⟩, z2, z3, z4, z5⟩ := H4.out.rq.cells; have f0 := free_at H4.out.rq 0; clear z1 z2 z3 z4 z5)
              | (go_at_call 73; refine (rbyte_any _ _ _ _ H1.out.rd).mono ?_; rintro e w2 ⟨rfl, hr, hk⟩; have H2 := hid (H1.out.kept (y := rd1 t) hk hr); clear hr hk; have hax := (Below.refl w2.heap.size w2).alloc (Nat.le_refl _) (.cells #[.int .i64 0, .int .i64 0, .int .i64 0, .string ⟨#[]⟩, .float .f64 0, .int .i64 0] 43); have H3 : Hid (QxSt w (w2.alloc (.cells #[.int .i64 0, .int .i64 0, .int .i64 0, .string ⟨#[]⟩, .float .f64 0, .int .i64 0] 43)) (rd1 t) w2.heap.size zeroQ) := hid ⟨H2.out.keep hax, heap_alloc_last w2 _, lt_of_blk H2.out.rd⟩; clear hax)
              | (go_at_call 72; refine (read_any _ _).mono ?_; rintro e w1 ⟨rfl, rfl⟩))
            refine ret_pair (s := 2) (s2 := 3) (ad := ⟨w.heap.size, 0, none⟩) rfl rfl (load_rq _ _ (rdq t) Hz.out.1) rfl rfl ?_
            refine ⟨?_, Hz.out.2.below HRs.out.2 (Nat.le_refl _)⟩
            rw [HV.out.1, HV.out.2]
            rfl
      · have hhb : ((rN t false 1 : Int) != 1) = true := by
          have : rN t false 1 ≠ 1 := hh
          simp
          omega
        have HFb := hid (HFr.out _ rfl)
        have HV : Hid (rdR t = zeroQ ∧ rdE t = 5) := hid (by rw [HRd.out.1, HRd.out.2, HOk.out]; simp [hh])
        clear hh HFr HR HRd HOk he
        go_enter Try.func62, Try.ntmps62
        go_wp2_with (first
          | (have := HRs; refine wl_store_rq rfl _ _ rfl w.heap.size rfl zeroQ zeroQ rfl HRs.out.1 ?_; intro wz Hz)
          | (go_at_call 79; refine (HRb.out _).mono ?_; rintro e w10 ⟨rfl, hb10⟩; have H10 := hid (H9s.out.keep hb10); clear hb10; (try clear z0 z1 z2 z3 z4 z5); obtain ⟨⟨z0, z1⟩, z2, z3, z4, z5⟩ := H10.out.rq.cells; have HRs : Hid (RqAt w10 w.heap.size zeroQ ∧ Below w.heap.size w w10) := hid ⟨H10.out.st.res, H10.out.st.bel⟩)
          | (go_at_call 78; refine (end_any _ _ _ _ H9s.out.st.rd).mono ?_; rintro e w11 ⟨rfl, rfl⟩)
          | (go_at_call 73; have := H8s; refine (rbyte_any _ _ _ _ H8s.out.st.rd).mono ?_; rintro e w9 ⟨rfl, hr, hk⟩; have H9 := hid (H8s.out.kept (y := rd7 t) hk hr); have H9s := hid (H9.out.st5 (rN (rd6 t).s (rd6 t).sh 1 : Int)); clear hr hk; (try clear z0 z1 z2 z3 z4 z5); obtain ⟨⟨z0, z1⟩, z2, z3, z4, z5⟩ := H9.out.rq.cells; have f5 := free_at H9.out.rq 5; have HRs : Hid (RqAt (w9.setCell ⟨w2.heap.size, 5, none⟩ (.int .i64 (rN (rd6 t).s (rd6 t).sh 1 : Int))) w.heap.size zeroQ ∧ Below w.heap.size w (w9.setCell ⟨w2.heap.size, 5, none⟩ (.int .i64 (rN (rd6 t).s (rd6 t).sh 1 : Int)))) := hid ⟨H9s.out.st.res, H9s.out.st.bel⟩)
          | (have := H8; refine wl_store_f rfl _ _ rfl w2.heap.size 4 rfl (fromW (rdBits t)) rfl _ z4 f4 ?_; have H8s := hid (H8.out.st4 (fromW (rdBits t))))
          | (go_at_call 76; refine (HFb.out _).mono ?_; rintro e w12 ⟨rfl, rfl⟩)
          | (go_at_call 77; have := H7s; refine (rbits_any _ _ _ _ H7s.out.st.rd).mono ?_; rintro e w8 ⟨rfl, hr, hk⟩; have H8 := hid (H7s.out.kept (y := rd6 t) hk hr); clear hr hk; (try clear z0 z1 z2 z3 z4 z5); obtain ⟨⟨z0, z1⟩, z2, z3, z4, z5⟩ := H8.out.rq.cells; have f4 := free_at H8.out.rq 4; clear z0 z1 z2 z3 z5)
          | (go_at_call 75; have := H6s; refine (rtext_any _ _ _ _ H6s.out.st.rd).mono ?_; rintro e w7 ⟨rfl, hr, hk⟩; have H7 := hid (H6s.out.kept (y := rd5 t) hk hr); have H7s := hid (H7.out.st3 (tT (rd4 t).s (rd4 t).sh)); clear hr hk; (try clear z0 z1 z2 z3 z4 z5); obtain ⟨⟨z0, z1⟩, z2, z3, z4, z5⟩ := H7.out.rq.cells; have f3 := free_at H7.out.rq 3; clear z0 z1 z2 z4 z5)
          | (go_at_call 73; have := H5s; refine (rbyte_any _ _ _ _ H5s.out.st.rd).mono ?_; rintro e w6 ⟨rfl, hr, hk⟩; have H6 := hid (H5s.out.kept (y := rd4 t) hk hr); have H6s := hid (H6.out.st2 (rN (rd3 t).s (rd3 t).sh 1 : Int)); clear hr hk; (try clear z0 z1 z2 z3 z4 z5); obtain ⟨⟨z0, z1⟩, z2, z3, z4, z5⟩ := H6.out.rq.cells; have f2 := free_at H6.out.rq 2; clear z0 z1 z3 z4 z5)
          | (go_at_call 74; have := H4s; refine (rlong_any _ _ _ _ H4s.out.st.rd).mono ?_; rintro e w5 ⟨rfl, hr, hk⟩; have H5 := hid (H4s.out.kept (y := rd3 t) hk hr); have H5s := hid (H5.out.st1 (rN (rd2 t).s (rd2 t).sh 4 : Int)); clear hr hk; (try clear z0 z1 z2 z3 z4 z5); obtain ⟨⟨z0, z1⟩, z2, z3, z4, z5⟩ := H5.out.rq.cells; have f1 := free_at H5.out.rq 1; clear z0 z2 z3 z4 z5)
          | (go_at_call 73; have := H3; refine (rbyte_any _ _ _ _ H3.out.st.rd).mono ?_; rintro e w4 ⟨rfl, hr, hk⟩; have H4 := hid (H3.out.kept (y := rd2 t) hk hr); have H4s := hid (H4.out.st0 (rN (rd1 t).s (rd1 t).sh 1 : Int)); clear hr hk; (try clear z0 z1 z2 z3 z4 z5); obtain ⟨⟨z0, z1⟩, z2, z3, z4, z5⟩ := H4.out.rq.cells; have f0 := free_at H4.out.rq 0; clear z1 z2 z3 z4 z5)
          | (go_at_call 73; refine (rbyte_any _ _ _ _ H1.out.rd).mono ?_; rintro e w2 ⟨rfl, hr, hk⟩; have H2 := hid (H1.out.kept (y := rd1 t) hk hr); clear hr hk; have hax := (Below.refl w2.heap.size w2).alloc (Nat.le_refl _) (.cells #[.int .i64 0, .int .i64 0, .int .i64 0, .string ⟨#[]⟩, .float .f64 0, .int .i64 0] 43); have H3 : Hid (QxSt w (w2.alloc (.cells #[.int .i64 0, .int .i64 0, .int .i64 0, .string ⟨#[]⟩, .float .f64 0, .int .i64 0] 43)) (rd1 t) w2.heap.size zeroQ) := hid ⟨H2.out.keep hax, heap_alloc_last w2 _, lt_of_blk H2.out.rd⟩; clear hax)
          | (go_at_call 72; refine (read_any _ _).mono ?_; rintro e w1 ⟨rfl, rfl⟩))
        refine ret_pair (s := 2) (s2 := 3) (ad := ⟨w.heap.size, 0, none⟩) rfl rfl (load_rq _ _ zeroQ Hz.out.1) rfl rfl ?_
        refine ⟨?_, Hz.out.2.below HRs.out.2 (Nat.le_refl _)⟩
        rw [HV.out.1, HV.out.2]
        rfl
    · have heb : (endOf (rd7 t).s (rd7 t).sh != 0) = true := by simpa using he
      have HFb := hid (HFr.out _ rfl)
      have HV : Hid (rdR t = zeroQ ∧ rdE t = 5) := hid (by rw [HRd.out.1, HRd.out.2, HOk.out]; simp [he])
      clear HFr HR HRd HOk he
      go_enter Try.func62, Try.ntmps62
      go_wp2_with (first
        | (have := HRs; refine wl_store_rq rfl _ _ rfl w.heap.size rfl zeroQ zeroQ rfl HRs.out.1 ?_; intro wz Hz)
        | (go_at_call 79; refine (HRb.out _).mono ?_; rintro e w10 ⟨rfl, hb10⟩; have H10 := hid (H9s.out.keep hb10); clear hb10; (try clear z0 z1 z2 z3 z4 z5); obtain ⟨⟨z0, z1⟩, z2, z3, z4, z5⟩ := H10.out.rq.cells; have HRs : Hid (RqAt w10 w.heap.size zeroQ ∧ Below w.heap.size w w10) := hid ⟨H10.out.st.res, H10.out.st.bel⟩)
        | (go_at_call 78; refine (end_any _ _ _ _ H9s.out.st.rd).mono ?_; rintro e w11 ⟨rfl, rfl⟩)
        | (go_at_call 73; have := H8s; refine (rbyte_any _ _ _ _ H8s.out.st.rd).mono ?_; rintro e w9 ⟨rfl, hr, hk⟩; have H9 := hid (H8s.out.kept (y := rd7 t) hk hr); have H9s := hid (H9.out.st5 (rN (rd6 t).s (rd6 t).sh 1 : Int)); clear hr hk; (try clear z0 z1 z2 z3 z4 z5); obtain ⟨⟨z0, z1⟩, z2, z3, z4, z5⟩ := H9.out.rq.cells; have f5 := free_at H9.out.rq 5; have HRs : Hid (RqAt (w9.setCell ⟨w2.heap.size, 5, none⟩ (.int .i64 (rN (rd6 t).s (rd6 t).sh 1 : Int))) w.heap.size zeroQ ∧ Below w.heap.size w (w9.setCell ⟨w2.heap.size, 5, none⟩ (.int .i64 (rN (rd6 t).s (rd6 t).sh 1 : Int)))) := hid ⟨H9s.out.st.res, H9s.out.st.bel⟩)
        | (have := H8; refine wl_store_f rfl _ _ rfl w2.heap.size 4 rfl (fromW (rdBits t)) rfl _ z4 f4 ?_; have H8s := hid (H8.out.st4 (fromW (rdBits t))))
        | (go_at_call 76; refine (HFb.out _).mono ?_; rintro e w12 ⟨rfl, rfl⟩)
        | (go_at_call 77; have := H7s; refine (rbits_any _ _ _ _ H7s.out.st.rd).mono ?_; rintro e w8 ⟨rfl, hr, hk⟩; have H8 := hid (H7s.out.kept (y := rd6 t) hk hr); clear hr hk; (try clear z0 z1 z2 z3 z4 z5); obtain ⟨⟨z0, z1⟩, z2, z3, z4, z5⟩ := H8.out.rq.cells; have f4 := free_at H8.out.rq 4; clear z0 z1 z2 z3 z5)
        | (go_at_call 75; have := H6s; refine (rtext_any _ _ _ _ H6s.out.st.rd).mono ?_; rintro e w7 ⟨rfl, hr, hk⟩; have H7 := hid (H6s.out.kept (y := rd5 t) hk hr); have H7s := hid (H7.out.st3 (tT (rd4 t).s (rd4 t).sh)); clear hr hk; (try clear z0 z1 z2 z3 z4 z5); obtain ⟨⟨z0, z1⟩, z2, z3, z4, z5⟩ := H7.out.rq.cells; have f3 := free_at H7.out.rq 3; clear z0 z1 z2 z4 z5)
        | (go_at_call 73; have := H5s; refine (rbyte_any _ _ _ _ H5s.out.st.rd).mono ?_; rintro e w6 ⟨rfl, hr, hk⟩; have H6 := hid (H5s.out.kept (y := rd4 t) hk hr); have H6s := hid (H6.out.st2 (rN (rd3 t).s (rd3 t).sh 1 : Int)); clear hr hk; (try clear z0 z1 z2 z3 z4 z5); obtain ⟨⟨z0, z1⟩, z2, z3, z4, z5⟩ := H6.out.rq.cells; have f2 := free_at H6.out.rq 2; clear z0 z1 z3 z4 z5)
        | (go_at_call 74; have := H4s; refine (rlong_any _ _ _ _ H4s.out.st.rd).mono ?_; rintro e w5 ⟨rfl, hr, hk⟩; have H5 := hid (H4s.out.kept (y := rd3 t) hk hr); have H5s := hid (H5.out.st1 (rN (rd2 t).s (rd2 t).sh 4 : Int)); clear hr hk; (try clear z0 z1 z2 z3 z4 z5); obtain ⟨⟨z0, z1⟩, z2, z3, z4, z5⟩ := H5.out.rq.cells; have f1 := free_at H5.out.rq 1; clear z0 z2 z3 z4 z5)
        | (go_at_call 73; have := H3; refine (rbyte_any _ _ _ _ H3.out.st.rd).mono ?_; rintro e w4 ⟨rfl, hr, hk⟩; have H4 := hid (H3.out.kept (y := rd2 t) hk hr); have H4s := hid (H4.out.st0 (rN (rd1 t).s (rd1 t).sh 1 : Int)); clear hr hk; (try clear z0 z1 z2 z3 z4 z5); obtain ⟨⟨z0, z1⟩, z2, z3, z4, z5⟩ := H4.out.rq.cells; have f0 := free_at H4.out.rq 0; clear z1 z2 z3 z4 z5)
        | (go_at_call 73; refine (rbyte_any _ _ _ _ H1.out.rd).mono ?_; rintro e w2 ⟨rfl, hr, hk⟩; have H2 := hid (H1.out.kept (y := rd1 t) hk hr); clear hr hk; have hax := (Below.refl w2.heap.size w2).alloc (Nat.le_refl _) (.cells #[.int .i64 0, .int .i64 0, .int .i64 0, .string ⟨#[]⟩, .float .f64 0, .int .i64 0] 43); have H3 : Hid (QxSt w (w2.alloc (.cells #[.int .i64 0, .int .i64 0, .int .i64 0, .string ⟨#[]⟩, .float .f64 0, .int .i64 0] 43)) (rd1 t) w2.heap.size zeroQ) := hid ⟨H2.out.keep hax, heap_alloc_last w2 _, lt_of_blk H2.out.rd⟩; clear hax)
        | (go_at_call 72; refine (read_any _ _).mono ?_; rintro e w1 ⟨rfl, rfl⟩))
      refine ret_pair (s := 2) (s2 := 3) (ad := ⟨w.heap.size, 0, none⟩) rfl rfl (load_rq _ _ zeroQ Hz.out.1) rfl rfl ?_
      refine ⟨?_, Hz.out.2.below HRs.out.2 (Nat.le_refl _)⟩
      rw [HV.out.1, HV.out.2]
      rfl
end Go.Proofs.Ytohhlolmojeomaa

/- The program's texts of what is signed: of what is prepared, of a state. -/
namespace Go.Proofs.Ytohhlolmojeomaa
open Go.RowKit

/-- Are all numbers Longs? Their bytes, one behind the other. -/
def sgB (l : List Int) : Bool := l.all (inR 4 ·)
def sgL (l : List Int) : List UInt8 := l.flatMap (fun x => be 4 x.toNat)
def sgT (m : Nat) (l : List Int) (x : ByteArray) : ByteArray := if sgB l then ⟨(be 1 m ++ sgL l).toArray⟩ ++ x else ⟨#[]⟩
def sgE (l : List Int) : Int := if sgB l then 0 else 1
theorem sg_get {l : List Int} {j : Nat} (h : j < l.length) : l[j]? = some (l.getD j 0) := by simp [h]
theorem sgL_snoc (l : List Int) (j : Nat) (hj : j < l.length) : sgL (l.take (j + 1)) = sgL (l.take j) ++ be 4 (l.getD j 0).toNat := by
  rw [List.take_add_one, sg_get hj, sgL, List.flatMap_append]
  simp [sgL]
theorem sgB_snoc (l : List Int) (j : Nat) (hj : j < l.length) : sgB (l.take (j + 1)) = (sgB (l.take j) && inR 4 (l.getD j 0)) := by
  rw [List.take_add_one, sg_get hj, sgB, List.all_append]
  simp [sgB]
theorem sgB_at {l : List Int} (h : sgB l = true) (j : Nat) (hj : j < l.length) : inR 4 (l.getD j 0) = true := by
  rw [sgB, List.all_eq_true] at h
  exact h _ (List.mem_of_getElem? (sg_get hj))
theorem sgL_len (l : List Int) : (sgL l).length = 4 * l.length := by
  induction l with
  | nil => rfl
  | cons x l ih =>
    rw [sgL, List.flatMap_cons, List.length_append, be_len, List.length_cons]
    rw [sgL] at ih
    omega
theorem wl_len (lim : Int) (l : List UInt8) (er n : Int) : (wL lim l er 4 n).length ≤ l.length + 4 := by
  rw [wL]
  split
  · rw [List.length_append, be_len]
    omega
  · omega
theorem we_er (lim : Int) (l : List UInt8) (er n : Int) (h : er ≠ 0 ∨ inR 4 n = false) : wE lim l er 4 n ≠ 0 := by
  rw [wE]
  unfold adm
  split
  · next h1 =>
    rcases h with h | h
    · exact absurd h1 h
    · rw [h]
      simp
  · next h1 => exact h1
set_option maxRecDepth 100000 in
set_option maxHeartbeats 6400000 in
theorem dsign_any (m : Nat) (hm : m < 256) (x : ByteArray) (hx : x.size ≤ 140737488355328) (a : Option Addr) (n cap : Nat) (l : List Int) (hn : l.length = n) (h3 : n ≤ 3) (hr : ∀ j, j < l.length → l.getD j 0 ≤ 9223372036854775807) (w : World) (hI : IntsIn w a l) :
    Calls Try.prog 88 #[.int .i64 (m : Int), .string x, .slice a n cap] w fun e w' => e = .returned (.tuple #[.string (sgT m l x), .int .i64 (sgE l)]) ∧ Below w.heap.size w w' := by
  have HI := hid hI
  have HN := hid hn
  have HM := hid hm
  have HR := hid hr
  have hn1 : (n : Int) ≤ 3 := by omega
  have hn0 : (0 : Int) ≤ (n : Int) := Int.natCast_nonneg _
  have H3 := hid h3
  have HLm : Hid (0 ≤ 1 + 4 * (n : Int) ∧ 1 + 4 * (n : Int) ≤ 4294967296 ∧ 1 ≤ 1 + 4 * (n : Int)) := hid (by omega)
  clear hI hn hm hr h3
  cases hB : sgB l with
  | true =>
    rw [show sgT m l x = ⟨(be 1 m ++ sgL l).toArray⟩ ++ x by rw [sgT, hB]; rfl, show sgE l = 0 by rw [sgE, hB]; rfl]
    have HB := hid hB
    have HX := hid hx
    clear hB hx
    go_enter Try.func88, Try.ntmps88
    go_wp2_with (first
      | (go_at_call 81; refine (pwnew _ (by exact HLm.out.1) _).mono ?_; rintro e w1 ⟨rfl, h1⟩; have T0 := hid h1; clear h1)
      | (go_at_call 82; refine (pwbyte _ (by exact HLm.out.1) (by exact HLm.out.2.1) _ _ _ [] m (by exact HM.out) (by exact HLm.out.2.2) (by exact T0.out)).mono ?_; rintro e w2 ⟨rfl, h2⟩; have T1 := hid h2; clear h2))
    clear T0
    go_loopw [23] (fun i wr => ∃ j : Nat, j ≤ n ∧ i = .int .i64 (j : Int) ∧ PwAt (1 + 4 * (n : Int)) w.heap.size w wr (be 1 m ++ sgL (l.take j)))
      (fun i _ => ((n : Int) - intOf i).toNat)
    case atStart => exact ⟨0, by omega, rfl, by rw [List.take_zero, show sgL [] = [] from rfl, List.append_nil]; exact T1.out⟩
    case round =>
      obtain ⟨j, hj, rfl, hO⟩ := hrel
      have HO := hid hO
      clear hO
      by_cases hjn : j = n
      · have hj1 : ¬ ((j : Int) < (n : Int)) := by omega
        have HE : Hid (PwAt (1 + 4 * (n : Int)) w.heap.size w wr (be 1 m ++ sgL l)) := hid (by
          have := HO.out
          rw [hjn, List.take_of_length_le (by rw [HN.out]; exact Nat.le_refl _)] at this
          exact this)
        have HXn : Hid (∀ k, k = (be 1 m).length + (sgL l).length + x.size → k ≤ 9223372036854775807) := hid (by intro k hk; rw [be_len, sgL_len, HN.out] at hk; have := HX.out; have := H3.out; omega)
        clear hj hjn
        obtain ⟨SL, eS⟩ : ∃ SL, SL = sgL l := ⟨_, rfl⟩
        rw [← eS] at HE HXn
        have HSL := hid eS
        clear eS
        go_wp2_with (go_at_call 87; refine (pwdone _ _ _ _ _ (by exact HE.out)).mono ?_; rintro e wx ⟨rfl, hd⟩; have HD := hid hd; clear hd)
        · rename_i h; exact absurd h (Nat.not_lt.mpr (HXn.out _ (by omega)))
        go_ret2
        exact ⟨by rw [← HSL.out]; rfl, HD.out⟩
      · have hj1 : (j : Int) < (n : Int) := by omega
        have hj0 : (0 : Int) ≤ (j : Int) := Int.natCast_nonneg _
        have hjl : j < l.length := by rw [HN.out]; omega
        have hrg := inR4 (sgB_at HB.out j hjl)
        have HS := hid (sgL_snoc l j hjl)
        obtain ⟨g, off, rfl, hg, hcell⟩ := HI.out.at j _ (sg_get hjl)
        generalize l.getD j 0 = y at hrg HS hcell
        obtain ⟨X, rfl⟩ : ∃ X : Nat, y = (X : Int) := ⟨y.toNat, by omega⟩
        rw [Int.toNat_natCast] at HS
        have cz : wr.cell? ⟨g, off + j, none⟩ = some (.int .i64 (X : Int)) := (HO.out.2.cell (p := ⟨g, off + j, none⟩) hg).trans hcell
        have HXx : Hid (X < 4294967296 ∧ ((be 1 m ++ sgL (l.take j)).length : Int) + 4 ≤ 1 + 4 * (n : Int)) := hid ⟨by omega, by rw [List.length_append, be_len, sgL_len, List.length_take]; omega⟩
        have HJ := hid (And.intro hj hjn)
        clear hj hjn hjl hrg hg hcell
        go_wp2_with (go_at_call 83; refine (pwlong _ (by exact HLm.out.1) (by exact HLm.out.2.1) _ _ _ (be 1 m ++ sgL (l.take j)) X (by exact HXx.out.1) (by exact HXx.out.2) (by exact HO.out)).mono ?_; rintro e w6 ⟨rfl, h6⟩; have H6 := hid h6; clear h6)
        go_roundw
        case rel => exact ⟨j + 1, by have := HJ.out; omega, by go_num, by rw [HS.out, ← List.append_assoc]; exact H6.out⟩
        case measure => simp [intOf]; omega
  | false =>
    rw [show sgT m l x = ⟨#[]⟩ by rw [sgT, hB]; rfl, show sgE l = 1 by rw [sgE, hB]; rfl]
    have HB := hid hB
    clear hB hx
    go_enter Try.func88, Try.ntmps88
    go_wp2_with (first
      | (go_at_call 81; refine (pwnew _ (by exact HLm.out.1) _).mono ?_; rintro e w1 ⟨rfl, h1⟩; have T0 := hid h1; clear h1)
      | (go_at_call 82; refine (pwbyte _ (by exact HLm.out.1) (by exact HLm.out.2.1) _ _ _ [] m (by exact HM.out) (by exact HLm.out.2.2) (by exact T0.out)).mono ?_; rintro e w2 ⟨rfl, h2⟩; have T1 := hid h2; clear h2))
    clear T0
    go_loopw [23] (fun i wr => ∃ (j : Nat) (L : List UInt8) (er : Int), j ≤ n ∧ i = .int .i64 (j : Int) ∧ PeAt (1 + 4 * (n : Int)) w.heap.size w wr L er ∧ L.length ≤ 1 + 4 * j ∧ (sgB (l.take j) = false → er ≠ 0))
      (fun i _ => ((n : Int) - intOf i).toNat)
    case atStart => exact ⟨0, [] ++ be 1 m, 0, by omega, rfl, T1.out.pe, by rw [List.nil_append, be_len]; omega, fun h => by rw [List.take_zero] at h; cases h⟩
    case round =>
      obtain ⟨j, L, er, hj, rfl, hO, hL, hE⟩ := hrel
      have HO := hid hO
      have HE := hid (And.intro hL hE)
      clear hO hL hE
      by_cases hjn : j = n
      · have hj1 : ¬ ((j : Int) < (n : Int)) := by omega
        have HEr : Hid (er ≠ 0) := hid (HE.out.2 (by rw [hjn, List.take_of_length_le (by rw [HN.out]; exact Nat.le_refl _)]; exact HB.out))
        have heb : (er != 0) = true := by simpa using HEr.out
        clear hj hjn
        go_wp2_with (go_at_call 87; refine (pedone _ _ _ _ _ _ (by exact HEr.out) (by exact HO.out)).mono ?_; rintro e wx ⟨rfl, hd⟩; have HD := hid hd; clear hd)
        go_ret2
        exact ⟨rfl, HD.out⟩
      · have hj1 : (j : Int) < (n : Int) := by omega
        have hj0 : (0 : Int) ≤ (j : Int) := Int.natCast_nonneg _
        have hjl : j < l.length := by rw [HN.out]; omega
        have hrg := HR.out j hjl
        have HS := hid (sgB_snoc l j hjl)
        obtain ⟨g, off, rfl, hg, hcell⟩ := HI.out.at j _ (sg_get hjl)
        generalize l.getD j 0 = y at hrg HS hcell
        have cz : wr.cell? ⟨g, off + j, none⟩ = some (.int .i64 y) := (HO.out.2.cell (p := ⟨g, off + j, none⟩) hg).trans hcell
        have HXx : Hid (y ≤ 9223372036854775807 ∧ L.length ≤ 4294967296) := hid ⟨hrg, by have := HE.out.1; have := H3.out; omega⟩
        have HJ := hid (And.intro hj hjn)
        clear hj hjn hjl hrg hg hcell
        go_wp2_with (go_at_call 83; refine (pelong _ (by exact HLm.out.1) (by exact HLm.out.2.1) _ _ _ L er y (by exact HXx.out.1) (by exact HXx.out.2) (by exact HO.out)).mono ?_; rintro e w6 ⟨rfl, h6⟩; have H6 := hid h6; clear h6)
        go_roundw
        case rel => exact ⟨j + 1, _, _, by have := HJ.out; omega, by go_num, H6.out, by have := wl_len (1 + 4 * (n : Int)) L er y; have := HE.out.1; omega, fun h => by
          rw [HS.out, Bool.and_eq_false_iff] at h
          exact we_er _ _ _ _ (h.imp_left HE.out.2)⟩
        case measure => simp [intOf]; omega
theorem ints_new (w : World) (l : List Int) (t : TypeId) : IntsIn (w.alloc (.cells (l.map (Value.int .i64)).toArray t)) (some ⟨w.heap.size, 0, none⟩) l :=
  .inr ⟨w.heap.size, 0, rfl, by simp, fun j z hz => by
    rw [Nat.zero_add]
    exact cell_at (heap_alloc_last w _) j _ (by rw [List.getElem?_map, hz]; rfl)⟩
theorem sg_three (e v s : Int) : sgB [e, v, s] = spB e v s := by simp [sgB, spB, Bool.and_assoc]
set_option maxRecDepth 100000 in
set_option maxHeartbeats 6400000 in
theorem dprepared_any (e v s : Int) (hi : e ≤ 9223372036854775807 ∧ v ≤ 9223372036854775807 ∧ s ≤ 9223372036854775807) (r : Rq) (hb : r.b < 18446744073709551616) (w : World) : Calls Try.prog 67 #[.int .i64 e, .int .i64 v, .int .i64 s, .agg #[.int .i64 r.c, .int .i64 r.st, .int .i64 r.k, .string r.key, .float .f64 r.b, .int .i64 r.id]] w fun e' w' => e' = .returned (.tuple #[.string (prT e v s r), .int .i64 (prE e v s r)]) ∧ Below w.heap.size w w' := by
  have H0 : Hid (RqAt (w.alloc (.cells #[.int .i64 r.c, .int .i64 r.st, .int .i64 r.k, .string r.key, .float .f64 r.b, .int .i64 r.id] 43)) w.heap.size r ∧ Below w.heap.size w (w.alloc (.cells #[.int .i64 r.c, .int .i64 r.st, .int .i64 r.k, .string r.key, .float .f64 r.b, .int .i64 r.id] 43))) := hid ⟨heap_alloc_last w _, (Below.refl w.heap.size w).alloc (Nat.le_refl _) _⟩
  have HTx : Hid (∀ u, Calls Try.prog 65 #[.agg #[.int .i64 r.c, .int .i64 r.st, .int .i64 r.k, .string r.key, .float .f64 r.b, .int .i64 r.id]] u fun e w' => e = .returned (.tuple #[.string (rqT r), .int .i64 (rqE r)]) ∧ Below u.heap.size u w') := hid (fun u => dtext_any r hb u)
  have HSz := hid (rqT_size r)
  have HSg : Hid (rqE r = 0 → sgT 80 [e, v, s] (rqT r) = prT e v s r ∧ sgE [e, v, s] = prE e v s r) := hid (fun hE => by
    rw [sgT, sgE, prT, prE, if_pos hE, if_pos hE, sg_three]
    refine ⟨?_, rfl⟩
    cases spB e v s with
    | false => rfl
    | true =>
      apply ByteArray.ext
      apply Array.ext'
      rw [if_pos rfl, if_pos rfl, add_texts]
      simp [sgL, prL])
  have HI : Hid (∀ j, j < [e, v, s].length → [e, v, s].getD j 0 ≤ 9223372036854775807) := hid (fun j hj => by
    match j, hj with
    | 0, _ => exact hi.1
    | 1, _ => exact hi.2.1
    | 2, _ => exact hi.2.2)
  clear hb hi
  by_cases hE : rqE r = 0
  · obtain ⟨h1, h2⟩ := HSg.out hE
    rw [← h1, ← h2]
    rw [hE] at HTx
    clear h1 h2 HSg hE
    generalize rqT r = T at HTx HSz ⊢
    go_enter Try.func67, Try.ntmps67
    go_wp2_with (first
      | (go_at_call 65; refine (HTx.out _).mono ?_; rintro e w1 ⟨rfl, hb1⟩; have H1 := hid (H0.out.2.trans (hb1.mono H0.out.2.size)); clear hb1)
      | (go_at_call 88; refine (dsign_any 80 (by decide) T (Nat.le_trans HSz.out (by decide)) _ 3 3 [e, v, s] rfl (by decide) (by exact HI.out) _ (by exact ints_new w1 [e, v, s] _)).mono ?_; rintro e w2 ⟨rfl, hb2⟩; have H2 := hid ((H1.out.alloc H1.out.size _).trans (hb2.mono (by simp; have := H1.out.size; omega))); clear hb2))
    go_ret2
    exact ⟨rfl, H2.out⟩
  · rw [show prT e v s r = ⟨#[]⟩ by rw [prT, if_neg hE], show prE e v s r = 1 by rw [prE, if_neg hE]]
    have heb : (rqE r != 0) = true := by simpa using hE
    clear hE HSg HSz HI
    generalize rqT r = T at HTx
    generalize rqE r = E at HTx heb
    go_enter Try.func67, Try.ntmps67
    go_wp2_with (go_at_call 65; refine (HTx.out _).mono ?_; rintro e w1 ⟨rfl, hb1⟩; have H1 := hid (H0.out.2.trans (hb1.mono H0.out.2.size)); clear hb1)
    go_ret2
    exact ⟨rfl, H1.out⟩
end Go.Proofs.Ytohhlolmojeomaa
