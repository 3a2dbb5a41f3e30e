/- Texts laid together: CoG BaD BaE LiA DeB CoF CoI TeE TeF. -/
import Derived.Test.YtpholamobedkhaaMg03
import Derived.OrdersHeld
/- The document's bytes of a configuration. -/
namespace Go.Proofs.Ytpholamobedkhaa
open Go.RowKit

/-- The document's writer at block c, with room for 100, and l in it; nothing below c has turned since w0. -/
def TwAt (c : Nat) (w0 w : World) (l : List UInt8) : Prop := (∃ v, MwAt w c v 100 l 0) ∧ Below c w0 w
theorem inR_yes (s n : Nat) (hn : n < 256 ^ s) : inR s (n : Int) = true := by
  unfold inR
  exact decide_eq_true ⟨Int.natCast_nonneg _, by exact_mod_cast hn⟩
theorem wL_ok (l : List UInt8) (s n : Nat) (hn : n < 256 ^ s) (hl : l.length + s ≤ 100) : wL 100 l 0 s (n : Int) = l ++ be s n ∧ wE 100 l 0 s (n : Int) = 0 := by
  have h : adm 100 l.length 0 (inR s (n : Int)) s = 0 := by
    have hi : inR s (n : Int) = true := inR_yes s n hn
    rw [hi]
    unfold adm
    simp
    omega
  exact ⟨by rw [wL, if_pos h, Int.toNat_natCast], by rw [wE, h]⟩
theorem tnum (c : Nat) (w0 w : World) (l : List UInt8) (n s : Nat) (hs : s ≤ 4) (hn : n < 256 ^ s) (hl : l.length + s ≤ 100) (h : TwAt c w0 w l) :
    Calls Try.prog 45 #[.pointer (some ⟨c, 0, none⟩), .int .i64 (n : Int), .int .i64 (s : Int)] w fun e w' => e = .returned (.tuple #[]) ∧ TwAt c w0 w' (l ++ be s n) := by
  obtain ⟨⟨v, hv⟩, hb⟩ := h
  refine (mnum_w c v 100 l 0 n s hs w hv (by decide) (by decide) (by omega)).mono ?_
  rintro e w' ⟨rfl, v', h', hk, _⟩
  rw [(wL_ok l s n hn hl).1, (wL_ok l s n hn hl).2] at h'
  exact ⟨rfl, ⟨v', h'⟩, hb.trans (hk.below (Nat.le_of_lt hv.lt) (Nat.le_refl _) (fun g hg => by have := (hv.own.lt g hg).1; omega))⟩
def memBytes (l : List Int) : List UInt8 := l.flatMap fun x => be 1 x.toNat
/-- The bytes of a right configuration. -/
def confB (ep : Int) (l : List Int) : List UInt8 := be 1 67 ++ be 2 ep.toNat ++ be 1 l.length ++ memBytes l
theorem memBytes_len (l : List Int) : (memBytes l).length = l.length := by
  induction l with
  | nil => rfl
  | cons x l ih =>
    show (be 1 x.toNat ++ memBytes l).length = _
    rw [List.length_append, be_len, ih, List.length_cons]
    omega
theorem memBytes_snoc (l : List Int) (j : Nat) (hj : j < l.length) : memBytes (l.take (j + 1)) = memBytes (l.take j) ++ be 1 (l.getD j 0).toNat := by
  rw [List.take_add_one, getD_some hj, memBytes, List.flatMap_append]
  simp [memBytes]
def textC (ep : Int) (l : List Int) : ByteArray := if rightC ep l then ⟨(confB ep l).toArray⟩ else ⟨#[]⟩
def textE (ep : Int) (l : List Int) : Int := if rightC ep l then 0 else 1
set_option maxRecDepth 100000 in
set_option maxHeartbeats 3200000 in
theorem vtext_any (ep : Int) (a : Option Addr) (n cap : Nat) (l : List Int) (hn : l.length = n) (hm : n ≤ maxLen) (w : World) (hI : IntsIn w a l) :
    Calls Try.prog 26 #[.agg #[.int .i64 ep, .slice a n cap]] w fun e w' => e = .returned (.tuple #[.string (textC ep l), .int .i64 (textE ep l)]) ∧ Below w.heap.size w w' := by
  have HR : Hid (∀ (b : Bool), rightC ep l = b → ∀ u : World, IntsIn u a l → Calls Try.prog 31 #[.agg #[.int .i64 ep, .slice a n cap]] u fun e w' => e = .returned (.bool b) ∧ Below u.heap.size u w') := hid (fun b hb u hu => by rw [← hb]; exact vright_any ep a n cap l hn hm u hu)
  have HI := hid hI
  have HN := hid hn
  clear hI hm hn
  cases hr : rightC ep l with
  | false =>
    rw [show textC ep l = ⟨#[]⟩ by rw [textC, hr]; rfl, show textE ep l = 1 by rw [textE, hr]; rfl]
    have HRb := hid (HR.out false hr)
    clear hr
    go_enter Try.func26, Try.ntmps26
    go_wp2_with (go_at_call 31; refine (HRb.out _ (by exact HI.out.alloc _)).mono ?_; rintro e w1 ⟨rfl, hb1⟩; have H1 := hid (((Below.refl w.heap.size w).alloc (Nat.le_refl _) _).trans (hb1.mono (by simp))); clear hb1)
    go_ret2
    exact ⟨rfl, H1.out⟩
  | true =>
    have HRb := hid (HR.out true hr)
    obtain ⟨⟨he0, he60⟩, hmb⟩ := right_mem hr
    have hml := mem_len hmb
    rw [HN.out] at hml
    obtain ⟨E, rfl⟩ : ∃ E : Nat, ep = (E : Int) := ⟨ep.toNat, by omega⟩
    rw [show textE (E : Int) l = 0 by rw [textE, hr]; rfl]
    obtain ⟨T, eT⟩ : ∃ T, T = textC (E : Int) l := ⟨_, rfl⟩
    have HT : Hid (T = ⟨(be 1 67 ++ be 2 E ++ be 1 n ++ memBytes l).toArray⟩) := hid (by rw [eT, textC, hr, if_pos rfl, confB, Int.toNat_natCast, HN.out])
    rw [← eT]
    have HM := hid hmb
    have hn1 : (n : Int) ≤ 10 := by omega
    have hE1 : (E : Int) ≤ 60 := by omega
    have HE := hid (And.intro hml (show E ≤ 60 by omega))
    clear hr he0 he60 hmb hml eT
    go_enter Try.func26, Try.ntmps26
    go_wp2_with (first
      | (go_at_call 31; refine (HRb.out _ (by exact HI.out.alloc _)).mono ?_; rintro e w1 ⟨rfl, hb1⟩
         have c0 : w1.cell? ⟨w.heap.size, 0, none⟩ = some (.int .i64 (E : Int)) := (hb1.cell (p := ⟨w.heap.size, 0, none⟩) (by simp)).trans (cell_at (conf_cells w _ _) 0 _ rfl)
         have c1 : w1.cell? ⟨w.heap.size, 1, none⟩ = some (.slice a n cap) := (hb1.cell (p := ⟨w.heap.size, 1, none⟩) (by simp)).trans (cell_at (conf_cells w _ _) 1 _ rfl)
         have hlt : w.heap.size < w1.heap.size := Nat.lt_of_lt_of_le (by simp) hb1.size
         have H1 := hid (And.intro hlt (And.intro (((Below.refl w.heap.size w).alloc (Nat.le_refl _) _).trans (hb1.mono (by simp))) (And.intro c0 c1)))
         clear hb1 hlt)
      | (go_at_call 44; refine (mnew_any _ _).mono ?_; rintro e w2 ⟨rfl, hw2⟩
         have H2 : Hid (TwAt w1.heap.size w1 w2 []) := hid (by rw [hw2]; exact ⟨⟨_, ⟨heap_alloc_last w1 _, ⟨rfl, .inl ⟨rfl, rfl⟩⟩⟩⟩, (Below.refl _ _).alloc (Nat.le_refl _) _⟩)
         clear hw2)
      | (go_at_call 45; have := H4; refine (tnum _ _ _ (be 1 67 ++ be 2 E) n 1 (by decide) (by have := HE.out.1; omega) (by rw [List.length_append, be_len, be_len]; decide) (by exact H4.out)).mono ?_; rintro e w5 ⟨rfl, h5⟩; have H5 := hid h5; clear h5)
      | (go_at_call 45; have := H3; refine (tnum _ _ _ (be 1 67) E 2 (by decide) (by have := HE.out.2; omega) (by rw [be_len]; decide) (by exact H3.out)).mono ?_; rintro e w4 ⟨rfl, h4⟩; have H4 := hid h4; clear h4; have d1 : w4.cell? ⟨w.heap.size, 1, none⟩ = some (.slice a n cap) := (H4.out.2.cell (p := ⟨w.heap.size, 1, none⟩) H1.out.1).trans H1.out.2.2.2)
      | (go_at_call 45; refine (tnum _ _ _ [] 67 1 (by decide) (by decide) (by decide) (by exact H2.out)).mono ?_; rintro e w3 ⟨rfl, h3⟩; have H3 := hid h3; clear h3; have d0 : w3.cell? ⟨w.heap.size, 0, none⟩ = some (.int .i64 (E : Int)) := (H3.out.2.cell (p := ⟨w.heap.size, 0, none⟩) H1.out.1).trans H1.out.2.2.1))
    obtain ⟨P, eP⟩ : ∃ P, P = be 1 67 ++ be 2 E ++ be 1 n := ⟨_, rfl⟩
    rw [← eP] at H5 HT
    have HP : Hid (P.length = 4) := hid (by rw [eP, List.length_append, List.length_append, be_len, be_len, be_len])
    clear eP this
    go_loopw [5] (fun i wr => ∃ j : Nat, j ≤ n ∧ i = .int .i64 (j : Int) ∧ TwAt w1.heap.size w1 wr (P ++ memBytes (l.take j)))
      (fun i _ => ((n : Int) - intOf i).toNat)
    case atStart => exact ⟨0, by omega, rfl, by rw [List.take_zero, show memBytes [] = [] from rfl, List.append_nil]; exact H5.out⟩
    case round =>
      obtain ⟨j, hj, rfl, hO⟩ := hrel
      have HO := hid hO
      clear hO
      have e1 : wr.cell? ⟨w.heap.size, 1, none⟩ = some (.slice a n cap) := (HO.out.2.cell (p := ⟨w.heap.size, 1, none⟩) H1.out.1).trans H1.out.2.2.2
      by_cases hjn : j = n
      · have hj1 : ¬ ((j : Int) < (n : Int)) := by omega
        have hO := HO.out
        rw [hjn, List.take_of_length_le (by rw [HN.out]; exact Nat.le_refl _)] at hO
        obtain ⟨⟨v, hv⟩, hb⟩ := hO
        have HV := hid hv
        have HB := hid hb
        clear hj hjn hv hb
        go_wp2_with (go_at_call 46; refine (mdone_ok _ _ _ _ _ (by exact HV.out)).mono ?_; rintro e wx ⟨rfl, rfl⟩)
        go_ret2
        exact ⟨by rw [HT.out]; rfl, H1.out.2.1.trans (HB.out.mono (Nat.le_of_lt H1.out.1))⟩
      · have hj1 : (j : Int) < (n : Int) := by omega
        have hj0 : (0 : Int) ≤ (j : Int) := Int.natCast_nonneg _
        have hjl : j < l.length := by rw [HN.out]; omega
        have hrg := mem_range HM.out j hjl
        have HS := hid (memBytes_snoc l j hjl)
        obtain ⟨g, off, rfl, hg, hcell⟩ := HI.out.at j _ (getD_some hjl)
        generalize l.getD j 0 = x at hrg HS hcell
        obtain ⟨X, rfl⟩ : ∃ X : Nat, x = (X : Int) := ⟨x.toNat, by omega⟩
        rw [Int.toNat_natCast] at HS
        have cz : wr.cell? ⟨g, off + j, none⟩ = some (.int .i64 (X : Int)) := (HO.out.2.cell (p := ⟨g, off + j, none⟩) (Nat.lt_of_lt_of_le hg H1.out.2.1.size)).trans ((H1.out.2.1.cell (p := ⟨g, off + j, none⟩) hg).trans hcell)
        have HX : Hid (X < 256 ∧ (P ++ memBytes (l.take j)).length + 1 ≤ 100) := hid ⟨by omega, by rw [List.length_append, HP.out, memBytes_len, List.length_take]; omega⟩
        have HJ := hid (And.intro hj hjn)
        clear hj hjn hjl hrg hg hcell
        go_wp2_with (go_at_call 45; refine (tnum _ _ _ (P ++ memBytes (l.take j)) X 1 (by decide) (by exact HX.out.1) (by exact HX.out.2) (by exact HO.out)).mono ?_; rintro e w6 ⟨rfl, h6⟩; have H6 := hid h6; clear h6)
        go_roundw
        case rel => exact ⟨j + 1, by have := HJ.out; omega, by go_num, by rw [HS.out, ← List.append_assoc]; exact H6.out⟩
        case measure => simp [intOf]; omega
end Go.Proofs.Ytpholamobedkhaa

/- What all families of texts share: one operation that is ready in a region that draws. -/
namespace Go.Proofs.Ytpholamobedkhaa
open Go.RowKit

section
variable {P : Program} {ops : Array Oper} {o : Oper} {a : Act} {w : World} {K : Act → World → Prop} {Q : Exit → Act → World → Prop}
theorem wpOp_q {i : Nat} (hi : ops[i]? = some o) (hgd : o.guard = none) (h : ∀ K' : Act → World → Prop, (∀ a w, K a w → K' a w) → o.wp P a w K' Q) : wpOp P ops Q i K a w := by
  unfold Go.wpOp
  simp only [hi]
  have hw : Region.wanted o (yielded ops a.tmps) = true := by simp [Region.wanted, hgd]
  simp only [hw, if_true]
  exact .inl (h K (fun _ _ h => h))
end
end Go.Proofs.Ytpholamobedkhaa

/- What all families of texts share: results that live in a variable; rows of one's own beside a store elsewhere. -/
namespace Go.Proofs.Ytpholamobedkhaa
open Go.RowKit

theorem ret_pair {f : Func} {a : Act} {w : World} {Q : Ending → World → Prop} {s s2 : Nat} {t : TypeId} {ad : Addr} {v v2 : Value} (hr : f.results = #[.cell s t, .tmp s2]) (hs : a.tmps.getD s undef = .pointer (some ad)) (hl : (loadVar t ad).run Try.prog w = .ok v w) (h2 : a.tmps.getD s2 undef = v2) (hd : a.defers = [])
    (h : Q (.returned (.tuple #[v, v2])) w) : bodyPost Try.prog f Q .ret a w := by
  refine bodyPost_ret (v := .tuple #[v, v2]) ?_ hd h
  have h1 : a.tmps.getD s undef = .pointer (some ad) := hs
  simp [results, hr, -Array.getD_eq_getD_getElem?, h1, h2, asAddr, hl]
theorem ret_three {f : Func} {a : Act} {w : World} {Q : Ending → World → Prop} {s s2 s3 : Nat} {t : TypeId} {ad : Addr} {v v2 v3 : Value} (hr : f.results = #[.cell s t, .tmp s2, .tmp s3]) (hs : a.tmps.getD s undef = .pointer (some ad)) (hl : (loadVar t ad).run Try.prog w = .ok v w) (h2 : a.tmps.getD s2 undef = v2) (h3 : a.tmps.getD s3 undef = v3) (hd : a.defers = [])
    (h : Q (.returned (.tuple #[v, v2, v3])) w) : bodyPost Try.prog f Q .ret a w := by
  refine bodyPost_ret (v := .tuple #[v, v2, v3]) ?_ hd h
  have h1 : a.tmps.getD s undef = .pointer (some ad) := hs
  simp [results, hr, -Array.getD_eq_getD_getElem?, h1, h2, h3, asAddr, hl]
theorem ret_four {f : Func} {a : Act} {w : World} {Q : Ending → World → Prop} {s s2 s3 s4 : Nat} {t : TypeId} {ad : Addr} {v v2 v3 v4 : Value} (hr : f.results = #[.cell s t, .tmp s2, .tmp s3, .tmp s4]) (hs : a.tmps.getD s undef = .pointer (some ad)) (hl : (loadVar t ad).run Try.prog w = .ok v w) (h2 : a.tmps.getD s2 undef = v2) (h3 : a.tmps.getD s3 undef = v3) (h4 : a.tmps.getD s4 undef = v4) (hd : a.defers = [])
    (h : Q (.returned (.tuple #[v, v2, v3, v4])) w) : bodyPost Try.prog f Q .ret a w := by
  refine bodyPost_ret (v := .tuple #[v, v2, v3, v4]) ?_ hd h
  have h1 : a.tmps.getD s undef = .pointer (some ad) := hs
  simp [results, hr, -Array.getD_eq_getD_getElem?, h1, h2, h3, h4, asAddr, hl]
theorem res_put {w : World} {b : Nat} {p q x y : Value} {T : TypeId} (h : w.heap[b]? = some (.cells #[p, q] T (0, 0))) : ((w.setCell ⟨b, 0, none⟩ x).setCell ⟨b, 1, none⟩ y).heap[b]? = some (.cells #[x, y] T (0, 0)) := by
  have h1 : (w.setCell ⟨b, 0, none⟩ x).heap[b]? = some (.cells #[x, q] T (0, 0)) := (blk_set h 0 x).trans (by simp)
  exact (blk_set h1 1 y).trans (by simp)
theorem own_put {w : World} {B z : Nat} {v : Value} {n : Nat} {xs : List Value} {e : TypeId} (h : w.ownsRow B e z v n xs) (r o : Nat) (x : Value) (hr : r < B) : (w.setCell ⟨r, o, none⟩ x).ownsRow B e z v n xs := by
  refine ⟨h.1, ?_⟩
  rcases h.2 with hn | ⟨g, cap, cur, hv, hB, hh, hx⟩
  · exact .inl hn
  · exact .inr ⟨g, cap, cur, hv, hB, (Below.heap_setCell _ _ _ _ (by show ¬ g = r; omega)).trans hh, hx⟩
theorem cell_two {w : World} {b : Nat} {x y : Value} {T : TypeId} {fr : Nat × Nat} (h : w.heap[b]? = some (.cells #[x, y] T fr)) : w.cell? ⟨b, 0, none⟩ = some x ∧ w.cell? ⟨b, 1, none⟩ = some y :=
  ⟨cell_at (L := [x, y]) h 0 _ rfl, cell_at (L := [x, y]) h 1 _ rfl⟩
end Go.Proofs.Ytpholamobedkhaa

/- The document's lineage: which link is good behind which configuration. -/
namespace Go.Proofs.Ytpholamobedkhaa
open Go.RowKit

/-- Which link is good behind which configuration. -/
def validE (ep : Int) (l : List Int) (e2 : Int) (l2 : List Int) (ss : List (Int × ByteArray)) : Int :=
  if rightC ep l = false then 1 else if rightC e2 l2 = false then 1 else if e2 ≠ ep + 1 then 12 else if provesB ep l (textC e2 l2) ss = false then 15 else 0
/-- A link at block b. -/
def LnAt (w : World) (b : Nat) (e : Int) (vm vs : Value) : Prop := w.heap[b]? = some (.cells [.int .i64 e, vm, vs].toArray 27 (0, 0))
theorem LnAt.lt {w : World} {b : Nat} {e : Int} {vm vs : Value} (h : LnAt w b e vm vs) : b < w.heap.size := lt_of_blk h
theorem LnAt.keep {w w' : World} {b : Nat} {e : Int} {vm vs : Value} (h : LnAt w b e vm vs) (hb : Below w.heap.size w w') : LnAt w' b e vm vs := (hb.block b h.lt).trans h
theorem LnAt.cells {w : World} {b : Nat} {e : Int} {vm vs : Value} (h : LnAt w b e vm vs) : w.cell? ⟨b, 0, none⟩ = some (.int .i64 e) ∧ w.cell? ⟨b, 1, none⟩ = some vm ∧ w.cell? ⟨b, 2, none⟩ = some vs :=
  ⟨cell_at h 0 _ rfl, cell_at h 1 _ rfl, cell_at h 2 _ rfl⟩
/-- While a link is looked at: the old configuration, the link. -/
structure VaSt (w0 : World) (ep : Int) (vo : Value) (e2 : Int) (vm vs : Value) (w : World) : Prop where
  old : w.heap[w0.heap.size]? = some (.cells #[.int .i64 ep, vo] 24 (0, 0))
  ln : LnAt w (w0.heap.size + 1) e2 vm vs
  bel : Below w0.heap.size w0 w
theorem VaSt.keep {w0 : World} {ep : Int} {vo : Value} {e2 : Int} {vm vs : Value} {w w' : World} (h : VaSt w0 ep vo e2 vm vs w) (hb : Below w.heap.size w w') : VaSt w0 ep vo e2 vm vs w' :=
  ⟨(hb.block _ (lt_of_blk h.old)).trans h.old, h.ln.keep hb, h.bel.trans (hb.mono h.bel.size)⟩
set_option maxRecDepth 100000 in
set_option maxHeartbeats 3200000 in
theorem wvalid_any (ep : Int) (a : Option Addr) (n cap : Nat) (l : List Int) (hn : l.length = n) (hm : n ≤ maxLen) (e2 : Int) (a2 : Option Addr) (n2 c2 : Nat) (l2 : List Int) (hn2 : l2.length = n2) (hm2 : n2 ≤ maxLen) (b : Option Addr) (m cp : Nat) (ss : List (Int × ByteArray)) (hsn : ss.length = m) (hsm : m ≤ maxLen) (w : World) (hI : IntsIn w a l) (hI2 : IntsIn w a2 l2) (hP : PairsIn w b ss) :
    Calls Try.prog 11 #[.agg #[.int .i64 ep, .slice a n cap], .agg #[.int .i64 e2, .slice a2 n2 c2, .slice b m cp]] w fun e w' => e = .returned (.int .i64 (validE ep l e2 l2 ss)) ∧ Below w.heap.size w w' := by
  have HR : Hid (∀ (B : Bool), rightC ep l = B → ∀ u : World, IntsIn u a l → Calls Try.prog 31 #[.agg #[.int .i64 ep, .slice a n cap]] u fun e w' => e = .returned (.bool B) ∧ Below u.heap.size u w') := hid (fun B hB u hu => by rw [← hB]; exact vright_any ep a n cap l hn hm u hu)
  have HR2 : Hid (∀ (B : Bool), rightC e2 l2 = B → ∀ u : World, IntsIn u a2 l2 → Calls Try.prog 31 #[.agg #[.int .i64 e2, .slice a2 n2 c2]] u fun e w' => e = .returned (.bool B) ∧ Below u.heap.size u w') := hid (fun B hB u hu => by rw [← hB]; exact vright_any e2 a2 n2 c2 l2 hn2 hm2 u hu)
  have HT : Hid (∀ u : World, IntsIn u a2 l2 → Calls Try.prog 26 #[.agg #[.int .i64 e2, .slice a2 n2 c2]] u fun e w' => e = .returned (.tuple #[.string (textC e2 l2), .int .i64 (textE e2 l2)]) ∧ Below u.heap.size u w') := hid (fun u hu => vtext_any e2 a2 n2 c2 l2 hn2 hm2 u hu)
  have HPv : Hid (∀ (B : Bool), provesB ep l (textC e2 l2) ss = B → ∀ u : World, IntsIn u a l → PairsIn u b ss → Calls Try.prog 32 #[.agg #[.int .i64 ep, .slice a n cap], .string (textC e2 l2), .slice b m cp] u fun e w' => e = .returned (.bool B) ∧ Below u.heap.size u w') := hid (fun B hB u hu hv => by rw [← hB]; exact wproves_any ep a n cap l hn hm (textC e2 l2) b m cp ss hsn hsm u hu hv)
  have H0 : Hid (VaSt w ep (.slice a n cap) e2 (.slice a2 n2 c2) (.slice b m cp) ((w.alloc (.cells #[.int .i64 ep, .slice a n cap] 24)).alloc (.cells #[.int .i64 e2, .slice a2 n2 c2, .slice b m cp] 27))) := hid
    ⟨(Below.heap_alloc _ _ _ (by simp)).trans (heap_alloc_last w _), snd_alloc w _ _, ((Below.refl _ _).alloc (Nat.le_refl _) _).alloc (by simp) _⟩
  have HD : Hid (∀ u : World, Below w.heap.size w u → IntsIn u a l ∧ IntsIn u a2 l2 ∧ PairsIn u b ss) := hid (fun u hu => ⟨hI.keep hu (Nat.le_refl _), hI2.keep hu (Nat.le_refl _), hP.keep hu (Nat.le_refl _)⟩)
  clear hI hI2 hP hn hm hn2 hm2 hsn hsm
  cases hr : rightC ep l with
  | false =>
    rw [show validE ep l e2 l2 ss = 1 by rw [validE, if_pos hr]]
    have HRb := hid (HR.out false hr)
    clear hr
    go_enter Try.func11, Try.ntmps11
    go_wp2_with (go_at_call 31; refine (HRb.out _ (by exact (HD.out _ H0.out.bel).1)).mono ?_; rintro e w1 ⟨rfl, hb1⟩; have H1 := hid (H0.out.keep hb1); clear hb1)
    go_ret
    exact ⟨rfl, H1.out.bel⟩
  | true =>
    have HRb := hid (HR.out true hr)
    have hep : 0 ≤ ep ∧ ep ≤ 60 := (right_mem hr).1
    have hep0 := hep.1
    have hep1 := hep.2
    clear hep
    cases hr2 : rightC e2 l2 with
    | false =>
      rw [show validE ep l e2 l2 ss = 1 by rw [validE, if_neg (by rw [hr]; decide), if_pos hr2]]
      have HRc := hid (HR2.out false hr2)
      clear hr hr2
      go_enter Try.func11, Try.ntmps11
      go_wp2_with (first
        | (go_at_call 31; have := H1; refine (HRc.out _ (by exact (HD.out _ H1.out.bel).2.1)).mono ?_; rintro e w2 ⟨rfl, hb2⟩; have H2 := hid (H1.out.keep hb2); clear hb2)
        | (go_at_call 31; refine (HRb.out _ (by exact (HD.out _ H0.out.bel).1)).mono ?_; rintro e w1 ⟨rfl, hb1⟩; have H1 := hid (H0.out.keep hb1); clear hb1; have z0 := H1.out.ln.cells.1; have z1 := H1.out.ln.cells.2.1))
      go_ret
      exact ⟨rfl, H2.out.bel⟩
    | true =>
      have HRc := hid (HR2.out true hr2)
      have he2 : e2 ≤ 60 := (right_mem hr2).1.2
      by_cases hz : e2 = ep + 1
      · have hzb : (e2 != ep + 1) = false := by simp [hz]
        have HV : Hid (∀ B, provesB ep l (textC e2 l2) ss = B → validE ep l e2 l2 ss = if B = false then 15 else 0) := hid (fun B hB => by rw [validE, if_neg (by rw [hr]; decide), if_neg (by rw [hr2]; decide), if_neg (fun h => h hz), hB])
        clear hr hr2 hz
        cases hp : provesB ep l (textC e2 l2) ss with
        | false =>
          rw [HV.out false hp, if_pos rfl]
          have HPb := hid (HPv.out false hp)
          clear hp
          generalize textC e2 l2 = T at HT HPb
          go_enter Try.func11, Try.ntmps11
          go_wp2_with (first
            | (go_at_call 31; have := H1; refine (HRc.out _ (by exact (HD.out _ H1.out.bel).2.1)).mono ?_; rintro e w2 ⟨rfl, hb2⟩; have H2 := hid (H1.out.keep hb2); clear hb2; have y0 := H2.out.ln.cells.1; have y1 := H2.out.ln.cells.2.1; have y2 := (cell_two H2.out.old).1)
            | (go_at_call 31; refine (HRb.out _ (by exact (HD.out _ H0.out.bel).1)).mono ?_; rintro e w1 ⟨rfl, hb1⟩; have H1 := hid (H0.out.keep hb1); clear hb1; have z0 := H1.out.ln.cells.1; have z1 := H1.out.ln.cells.2.1)
            | (go_at_call 26; refine (HT.out _ (by exact (HD.out _ H2.out.bel).2.1)).mono ?_; rintro e w3 ⟨rfl, hb3⟩; have H3 := hid (H2.out.keep hb3); clear hb3; have x0 := (cell_two H3.out.old).1; have x1 := (cell_two H3.out.old).2; have x2 := H3.out.ln.cells.2.2)
            | (go_at_call 32; refine (HPb.out _ (by exact (HD.out _ H3.out.bel).1) (by exact (HD.out _ H3.out.bel).2.2)).mono ?_; rintro e w4 ⟨rfl, hb4⟩; have H4 := hid (H3.out.keep hb4); clear hb4))
          go_ret
          exact ⟨rfl, H4.out.bel⟩
        | true =>
          rw [HV.out true hp, if_neg (by decide)]
          have HPb := hid (HPv.out true hp)
          clear hp
          generalize textC e2 l2 = T at HT HPb
          go_enter Try.func11, Try.ntmps11
          go_wp2_with (first
            | (go_at_call 31; have := H1; refine (HRc.out _ (by exact (HD.out _ H1.out.bel).2.1)).mono ?_; rintro e w2 ⟨rfl, hb2⟩; have H2 := hid (H1.out.keep hb2); clear hb2; have y0 := H2.out.ln.cells.1; have y1 := H2.out.ln.cells.2.1; have y2 := (cell_two H2.out.old).1)
            | (go_at_call 31; refine (HRb.out _ (by exact (HD.out _ H0.out.bel).1)).mono ?_; rintro e w1 ⟨rfl, hb1⟩; have H1 := hid (H0.out.keep hb1); clear hb1; have z0 := H1.out.ln.cells.1; have z1 := H1.out.ln.cells.2.1)
            | (go_at_call 26; refine (HT.out _ (by exact (HD.out _ H2.out.bel).2.1)).mono ?_; rintro e w3 ⟨rfl, hb3⟩; have H3 := hid (H2.out.keep hb3); clear hb3; have x0 := (cell_two H3.out.old).1; have x1 := (cell_two H3.out.old).2; have x2 := H3.out.ln.cells.2.2)
            | (go_at_call 32; refine (HPb.out _ (by exact (HD.out _ H3.out.bel).1) (by exact (HD.out _ H3.out.bel).2.2)).mono ?_; rintro e w4 ⟨rfl, hb4⟩; have H4 := hid (H3.out.keep hb4); clear hb4))
          go_ret
          exact ⟨rfl, H4.out.bel⟩
      · have hzb : (e2 != ep + 1) = true := by simpa using hz
        rw [show validE ep l e2 l2 ss = 12 by rw [validE, if_neg (by rw [hr]; decide), if_neg (by rw [hr2]; decide), if_pos hz]]
        clear hr hr2 hz
        go_enter Try.func11, Try.ntmps11
        go_wp2_with (first
          | (go_at_call 31; have := H1; refine (HRc.out _ (by exact (HD.out _ H1.out.bel).2.1)).mono ?_; rintro e w2 ⟨rfl, hb2⟩; have H2 := hid (H1.out.keep hb2); clear hb2; have y0 := H2.out.ln.cells.1; have y1 := H2.out.ln.cells.2.1; have y2 := (cell_two H2.out.old).1)
          | (go_at_call 31; refine (HRb.out _ (by exact (HD.out _ H0.out.bel).1)).mono ?_; rintro e w1 ⟨rfl, hb1⟩; have H1 := hid (H0.out.keep hb1); clear hb1; have z0 := H1.out.ln.cells.1; have z1 := H1.out.ln.cells.2.1))
        go_ret
        exact ⟨rfl, H2.out.bel⟩
end Go.Proofs.Ytpholamobedkhaa

/- Rows of one's own whose elements lead to data of any depth elsewhere. No walk here. -/
namespace Go.Proofs.Ytpholamobedkhaa
open Go.RowKit

/-- The slice v holds the elements es in a row of its own (from block B on); what they lead to is read through blocks of F, and the row is none of them. -/
structure OwnD (T : TypeId) (sz B : Nat) (F : Nat → Prop) (w : World) (v : Value) (es : List (List Dat)) : Prop where
  own : ∃ cs : List Value, w.ownsRow B T sz v es.length cs ∧ ∀ (j : Nat) (e : List Dat), es[j]? = some e → e.length = sz ∧ ∀ (q : Nat) (d : Dat), e[q]? = some d → ∃ u, cs[j * sz + q]? = some u ∧ Reads F w u d
  sep : ∀ g, v.ownBlock = some g → ¬ F g
theorem OwnD.nil (T : TypeId) (sz B : Nat) (F : Nat → Prop) (w : World) : OwnD T sz B F w (.slice none 0 0) [] :=
  ⟨⟨[], ⟨by simp, .inl ⟨rfl, rfl⟩⟩, fun j e h => by simp at h⟩, fun g h => by simp [Value.ownBlock] at h⟩
theorem OwnD.form {T : TypeId} {sz B : Nat} {F : Nat → Prop} {w : World} {v : Value} {es : List (List Dat)} (h : OwnD T sz B F w v es) : ∃ ad cap, v = .slice ad es.length cap := by
  obtain ⟨cs, ho, _⟩ := h.own
  rcases ho.2 with ⟨hv, h0⟩ | ⟨g, cap, cur, hv, _⟩
  · exact ⟨none, 0, by rw [hv, h0]⟩
  · exact ⟨_, cap, hv⟩
theorem OwnD.lt {T : TypeId} {sz B : Nat} {F : Nat → Prop} {w : World} {v : Value} {es : List (List Dat)} (h : OwnD T sz B F w v es) : ∀ g, v.ownBlock = some g → B ≤ g ∧ g < w.heap.size := fun g hg => by
  obtain ⟨cs, ho, _⟩ := h.own
  exact ho.lt g hg
/-- It stays while the row and what it leads to stay. -/
theorem OwnD.keep {T : TypeId} {sz B : Nat} {F : Nat → Prop} {w w' : World} {v : Value} {es : List (List Dat)} (h : OwnD T sz B F w v es) (hs : w.heap.size ≤ w'.heap.size) (hF : ∀ k, k < w.heap.size → F k → w'.heap[k]? = w.heap[k]?) (hr : ∀ g, v.ownBlock = some g → w'.heap[g]? = w.heap[g]?) : OwnD T sz B F w' v es := by
  obtain ⟨cs, ho, hc⟩ := h.own
  refine ⟨⟨cs, ⟨ho.1, ?_⟩, fun j e he => ⟨(hc j e he).1, fun q d hd => ?_⟩⟩, h.sep⟩
  · rcases ho.2 with hx | ⟨g, cap, cur, hv, hg, hh, hr2⟩
    · exact .inl hx
    · exact .inr ⟨g, cap, cur, hv, hg, (hr g (by rw [hv]; rfl)).trans hh, hr2⟩
  · obtain ⟨u, h1, h2⟩ := (hc j e he).2 q d hd
    exact ⟨u, h1, h2.keep hs hF⟩
theorem OwnD.under {T : TypeId} {sz B C : Nat} {F : Nat → Prop} {w w' : World} {v : Value} {es : List (List Dat)} (h : OwnD T sz B F w v es) (hb : Below C w w') (hC : w.heap.size ≤ C) : OwnD T sz B F w' v es :=
  h.keep hb.size (fun k hk _ => hb.block k (Nat.lt_of_lt_of_le hk hC)) (fun g hg => hb.block g (Nat.lt_of_lt_of_le (h.lt g hg).2 hC))
theorem ownsRow_one {w : World} {B sz n : Nat} {T : TypeId} {v : Value} {cs cs' : List Value} (h : w.ownsRow B T sz v n cs) (h' : w.ownsRow B T sz v n cs') : cs = cs' := by
  rcases h.2 with ⟨_, h0⟩ | ⟨g, cap, cur, hv, _, hh, _, _, _, ht⟩
  · have h1 := h.1
    have h2 := h'.1
    rw [h0, Nat.zero_mul] at h1 h2
    rw [List.eq_nil_of_length_eq_zero h1, List.eq_nil_of_length_eq_zero h2]
  · rcases h'.2 with ⟨hv', _⟩ | ⟨g', cap', cur', hv', _, hh', _, _, _, ht'⟩
    · rw [hv] at hv'; cases hv'
    · rw [hv] at hv'
      cases hv'
      rw [hh] at hh'
      cases hh'
      rw [← ht, ← ht']
/-- One more element behind the others. -/
theorem OwnD.grow {T : TypeId} {sz B : Nat} {F F' : Nat → Prop} {w w2 : World} {v v2 : Value} {es : List (List Dat)} {e : List Dat} {cs news : List Value} (h : OwnD T sz B F w v es) (ho : w.ownsRow B T sz v es.length cs)
    (he : e.length = sz) (hnew : ∀ (q : Nat) (d : Dat), e[q]? = some d → ∃ u, news[q]? = some u ∧ Reads F' w2 u d)
    (h2 : w2.ownsRow B T sz v2 (es.length + 1) (cs ++ news)) (hg : w.grownBy w2 v.ownBlock) (hF : ∀ k, k < w.heap.size → F k → F' k) (hsep : ∀ g, v2.ownBlock = some g → ¬ F' g) : OwnD T sz B F' w2 v2 (es ++ [e]) := by
  obtain ⟨cs', ho', hc⟩ := h.own
  obtain rfl := ownsRow_one ho ho'
  refine ⟨⟨cs ++ news, by rw [List.length_append]; exact h2, fun j x hx => ?_⟩, hsep⟩
  have hl : cs.length = es.length * sz := ho'.1
  by_cases hj : j < es.length
  · rw [List.getElem?_append_left hj] at hx
    obtain ⟨h1, h3⟩ := hc j x hx
    refine ⟨h1, fun q d hd => ?_⟩
    obtain ⟨u, h4, h5⟩ := h3 q d hd
    exact ⟨u, by rw [List.getElem?_append_left (List.getElem?_eq_some_iff.1 h4).1]; exact h4, h5.move hg.size (fun k hk hFk => ⟨hg.block k hk (fun e => h.sep k e.symm hFk), hF k hk hFk⟩)⟩
  · have hj2 : j = es.length := by
      have := (List.getElem?_eq_some_iff.1 hx).1
      simp at this
      omega
    subst hj2
    simp at hx
    subst hx
    refine ⟨he, fun q d hd => ?_⟩
    obtain ⟨u, h4, h5⟩ := hnew q d hd
    refine ⟨u, ?_, h5⟩
    rw [List.getElem?_append_right (by omega), hl, Nat.add_sub_cancel_left]
    exact h4
/-- What such a slice reads as. -/
theorem OwnD.reads {T : TypeId} {sz B : Nat} {F : Nat → Prop} {w : World} {v : Value} {es : List (List Dat)} (h : OwnD T sz B F w v es) : Reads (fun k => F k ∨ v.ownBlock = some k) w v (.l sz es) := by
  obtain ⟨cs, ho, hc⟩ := h.own
  cases es with
  | nil =>
    obtain ⟨ad, cap, hv⟩ := h.form
    rw [hv]
    exact .nil ad cap sz
  | cons e0 es =>
    rcases ho.2 with ⟨_, h0⟩ | ⟨g, cap, cur, hv, hB, hh, hnc, hcp, hcs, ht⟩
    · simp at h0
    · subst hv
      refine .l g 0 cap sz (e0 :: es) (fun j q => cs.getD (j * sz + q) undef) (.inr rfl) (lt_of_blk hh) (fun j e he => (hc j e he).1) (fun j e q d he hd => ?_) (fun j e q d he hd => ?_)
      · obtain ⟨u, h1, _⟩ := (hc j e he).2 q d hd
        have := ho.cells (g := g) rfl _ _ h1
        rw [Addr.add_lit] at this
        rw [List.getD_eq_getElem?_getD, h1, Nat.add_assoc]
        exact this
      · obtain ⟨u, h1, h2⟩ := (hc j e he).2 q d hd
        rw [List.getD_eq_getElem?_getD, h1]
        exact h2.mono (fun k _ hk => .inl hk)
end Go.Proofs.Ytpholamobedkhaa

/- The document's: who joins, who leaves. -/
namespace Go.Proofs.Ytpholamobedkhaa
open Go.RowKit

/-- The members with id, so far. -/
def joinTo (l : List Int) (id : Int) : Nat → List Int
  | 0 => []
  | j + 1 => joinTo l id j ++ (if (j : Int) = id ∨ (j : Int) ∈ l then [(j : Int)] else [])
theorem joinTo_yes (l : List Int) (id : Int) (j : Nat) (h : (j : Int) = id ∨ (j : Int) ∈ l) : joinTo l id (j + 1) = joinTo l id j ++ [(j : Int)] := by rw [joinTo, if_pos h]
theorem joinTo_no (l : List Int) (id : Int) (j : Nat) (h : ¬ ((j : Int) = id ∨ (j : Int) ∈ l)) : joinTo l id (j + 1) = joinTo l id j := by rw [joinTo, if_neg h, List.append_nil]
theorem joinTo_len (l : List Int) (id : Int) : ∀ j, (joinTo l id j).length ≤ j
  | 0 => Nat.le_refl _
  | j + 1 => by
    have := joinTo_len l id j
    rw [joinTo, List.length_append]
    split <;> simp <;> omega
def joinE (l : List Int) (id : Int) : Int := if ¬ (memB l = true ∧ 0 ≤ id ∧ id < 16) then 1 else if hasM l id = true then 7 else if 10 ≤ l.length then 10 else 0
def joinR (l : List Int) (id : Int) : List Int := if joinE l id = 0 then joinTo l id 16 else []
/-- The members without id. -/
def leaveF (l : List Int) (id : Int) : List Int := l.filter fun z => decide (z ≠ id)
def leaveE (l : List Int) (id : Int) : Int := if ¬ (memB l = true ∧ 0 ≤ id ∧ id < 16) then 1 else if hasM l id = false then 8 else if l.length ≤ 4 then 9 else 0
def leaveR (l : List Int) (id : Int) : List Int := if leaveE l id = 0 then leaveF l id else []
theorem leave_snoc (l : List Int) (id : Int) (j : Nat) (hj : j < l.length) :
    (l.getD j 0 ≠ id → leaveF (l.take (j + 1)) id = (leaveF (l.take j) id) ++ [l.getD j 0]) ∧
    (l.getD j 0 = id → leaveF (l.take (j + 1)) id = leaveF (l.take j) id) := by
  unfold leaveF
  rw [List.take_add_one, getD_some hj, List.filter_append]
  constructor
  · intro h
    rw [List.getD_eq_getElem?_getD] at h
    congr 1
    simp [h]
  · intro h
    rw [List.getD_eq_getElem?_getD] at h
    simp [h]

end Go.Proofs.Ytpholamobedkhaa

/- Members as rising lists; who joined and left. No walk here. -/
namespace Go.Proofs.Ytpholamobedkhaa
open Go.RowKit

abbrev Inc (l : List Int) : Prop := l.Pairwise (· < ·)
theorem inc_eq : ∀ (a b : List Int), Inc a → Inc b → (∀ x, x ∈ a ↔ x ∈ b) → a = b
  | [], [], _, _, _ => rfl
  | [], y :: b, _, _, h => absurd ((h y).2 (List.mem_cons_self ..)) (by simp)
  | x :: a, [], _, _, h => absurd ((h x).1 (List.mem_cons_self ..)) (by simp)
  | x :: a, y :: b, ha, hb, h => by
    obtain ⟨hx, ha1⟩ := List.pairwise_cons.1 ha
    obtain ⟨hy, hb1⟩ := List.pairwise_cons.1 hb
    have e : x = y := by
      have h1 := (h x).1 (List.mem_cons_self ..)
      have h2 := (h y).2 (List.mem_cons_self ..)
      rcases List.mem_cons.1 h1 with h1 | h1
      · exact h1
      · rcases List.mem_cons.1 h2 with h2 | h2
        · exact h2.symm
        · have := hx y h2
          have := hy x h1
          omega
    subst e
    congr 1
    refine inc_eq a b ha1 hb1 (fun z => ⟨fun hz => ?_, fun hz => ?_⟩)
    · rcases List.mem_cons.1 ((h z).1 (List.mem_cons_of_mem _ hz)) with rfl | h1
      · have := hx z hz; omega
      · exact h1
    · rcases List.mem_cons.1 ((h z).2 (List.mem_cons_of_mem _ hz)) with rfl | h1
      · have := hy z hz; omega
      · exact h1
theorem getD_get (l : List Int) (i : Nat) (h : i < l.length) : l.getD i 0 = l[i] := by
  rw [List.getD_eq_getElem?_getD, List.getElem?_eq_getElem h]; rfl
theorem inc_step (l : List Int) (h : ∀ i, i + 1 < l.length → l.getD i 0 < l.getD (i + 1) 0) : Inc l := by
  refine List.pairwise_iff_getElem.2 (fun i j hi hj hij => ?_)
  obtain ⟨d, rfl⟩ : ∃ d, j = i + 1 + d := ⟨j - i - 1, by omega⟩
  induction d with
  | zero =>
    have := h i hj
    rwa [getD_get l i hi, getD_get l (i + 1) hj] at this
  | succ d ih =>
    have h1 := ih (by omega) (by omega)
    have h2 := h (i + 1 + d) hj
    rw [getD_get l _ (by omega), getD_get l (i + 1 + d + 1) hj] at h2
    exact Int.lt_trans h1 h2
theorem mem_inc {l : List Int} (h : memB l = true) : Inc l := inc_step l (fun i hi => mem_rise h i hi)
theorem mem_in {l : List Int} (h : memB l = true) (x : Int) (hx : x ∈ l) : 0 ≤ x ∧ x < 16 := by
  obtain ⟨i, hi, rfl⟩ := List.getElem_of_mem hx
  have := mem_range h i hi
  rwa [getD_get l i hi] at this
theorem okTo_all (l : List Int) : ∀ n, (∀ i, i < n → okAt l i = true) → okTo l n = true
  | 0, _ => rfl
  | n + 1, h => by rw [okTo_succ, okTo_all l n (fun i hi => h i (by omega)), h n (by omega)]; rfl
/-- Rising, in range, neither few nor many: right. -/
theorem mem_of {l : List Int} (h1 : Inc l) (h2 : ∀ x, x ∈ l → 0 ≤ x ∧ x < 16) (h3 : 4 ≤ l.length ∧ l.length ≤ 10) : memB l = true := by
  rw [memB, decide_eq_true h3, Bool.and_true]
  refine okTo_all l _ (fun i hi => ?_)
  have hr := h2 _ (List.getElem_mem hi)
  rw [← getD_get l i hi] at hr
  cases i with
  | zero => exact okAt_yes0 l hr
  | succ i =>
    refine okAt_yes l (i + 1) hr ?_
    have := List.pairwise_iff_getElem.1 h1 i (i + 1) (by omega) hi (by omega)
    rwa [← getD_get l i (by omega), ← getD_get l (i + 1) hi] at this
theorem joinTo_mem (l : List Int) (id : Int) : ∀ n x, x ∈ joinTo l id n ↔ ∃ j : Nat, j < n ∧ x = (j : Int) ∧ (x = id ∨ x ∈ l)
  | 0, x => by simp [joinTo]
  | n + 1, x => by
    rw [joinTo, List.mem_append, joinTo_mem l id n x]
    constructor
    · rintro (⟨j, hj, h⟩ | h)
      · exact ⟨j, by omega, h⟩
      · split at h
        · next hc =>
          obtain rfl := List.mem_singleton.1 h
          exact ⟨n, by omega, rfl, hc⟩
        · simp at h
    · rintro ⟨j, hj, rfl, h⟩
      by_cases e : j = n
      · subst e
        right
        rw [if_pos h]
        exact List.mem_singleton.2 rfl
      · exact .inl ⟨j, by omega, rfl, h⟩
theorem joinTo_inc (l : List Int) (id : Int) : ∀ n, Inc (joinTo l id n)
  | 0 => List.Pairwise.nil
  | n + 1 => by
    rw [joinTo]
    refine List.pairwise_append.2 ⟨joinTo_inc l id n, ?_, fun x hx y hy => ?_⟩
    · split <;> simp
    · obtain ⟨j, hj, rfl, _⟩ := (joinTo_mem l id n x).1 hx
      split at hy
      · obtain rfl := List.mem_singleton.1 hy
        omega
      · simp at hy
theorem join_mem {l : List Int} {id : Int} (h : memB l = true) (h0 : 0 ≤ id ∧ id < 16) (x : Int) : x ∈ joinTo l id 16 ↔ x = id ∨ x ∈ l := by
  rw [joinTo_mem]
  constructor
  · rintro ⟨j, hj, rfl, h⟩
    exact h
  · intro hx
    have hr : 0 ≤ x ∧ x < 16 := by
      rcases hx with rfl | hx
      · exact h0
      · exact mem_in h x hx
    exact ⟨x.toNat, by omega, by omega, hx⟩
theorem leave_mem (l : List Int) (id x : Int) : x ∈ leaveF l id ↔ x ∈ l ∧ x ≠ id := by
  rw [leaveF, List.mem_filter]
  simp
theorem leave_inc {l : List Int} (h : Inc l) (id : Int) : Inc (leaveF l id) := List.Pairwise.filter _ h
theorem leave_len {l : List Int} (h : Inc l) (id : Int) (hi : id ∈ l) : (leaveF l id).length + 1 = l.length := by
  induction l with
  | nil => simp at hi
  | cons y l ih =>
    obtain ⟨hy, hl⟩ := List.pairwise_cons.1 h
    rw [leaveF, List.filter_cons]
    by_cases e : y = id
    · subst e
      rw [if_neg (by simp), List.length_cons, List.filter_eq_self.2]
      intro z hz
      have := hy z hz
      simp
      omega
    · have hi2 : id ∈ l := by
        rcases List.mem_cons.1 hi with h | h
        · exact absurd h.symm e
        · exact h
      rw [if_pos (by simp [e]), List.length_cons, List.length_cons]
      have := ih hl hi2
      rw [leaveF] at this
      omega
theorem joinE_ok {l : List Int} {id : Int} (h : joinE l id = 0) : memB l = true ∧ (0 ≤ id ∧ id < 16) ∧ id ∉ l ∧ l.length < 10 := by
  unfold joinE at h
  split at h
  · cases h
  · next h1 =>
    have h1 := Decidable.not_not.1 h1
    split at h
    · cases h
    · next h2 =>
      split at h
      · cases h
      · next h3 => exact ⟨h1.1, h1.2, fun hi => h2 (decide_eq_true hi), by omega⟩
theorem leaveE_ok {l : List Int} {id : Int} (h : leaveE l id = 0) : memB l = true ∧ (0 ≤ id ∧ id < 16) ∧ id ∈ l ∧ 4 < l.length := by
  unfold leaveE at h
  split at h
  · cases h
  · next h1 =>
    have h1 := Decidable.not_not.1 h1
    split at h
    · cases h
    · next h2 =>
      split at h
      · cases h
      · next h3 =>
        refine ⟨h1.1, h1.2, ?_, by omega⟩
        cases e : hasM l id with
        | false => exact absurd e h2
        | true => exact of_decide_eq_true e
/-- Who joined and leaves leaves the members as they were. -/
theorem join_leave {l : List Int} {id : Int} (h : joinE l id = 0) : leaveF (joinR l id) id = l ∧ (joinR l id).length = l.length + 1 := by
  obtain ⟨hm, h0, hn, hl⟩ := joinE_ok h
  have e : leaveF (joinR l id) id = l := by
    rw [joinR, if_pos h]
    refine inc_eq _ _ (leave_inc (joinTo_inc l id 16) id) (mem_inc hm) (fun x => ?_)
    rw [leave_mem, join_mem hm h0]
    constructor
    · rintro ⟨rfl | hx, hne⟩
      · exact absurd rfl hne
      · exact hx
    · intro hx
      exact ⟨.inr hx, fun e => hn (e ▸ hx)⟩
  refine ⟨e, ?_⟩
  have hin : id ∈ joinR l id := by
    rw [joinR, if_pos h, join_mem hm h0]
    exact .inl rfl
  have hinc : Inc (joinR l id) := by
    rw [joinR, if_pos h]
    exact joinTo_inc l id 16
  have := leave_len hinc id hin
  rw [e] at this
  omega
theorem join_right {l : List Int} {id : Int} (h : joinE l id = 0) : memB (joinR l id) = true := by
  obtain ⟨hm, h0, hn, hl⟩ := joinE_ok h
  have hlen := (join_leave h).2
  have := (mem_len hm).1
  refine mem_of ?_ (fun x hx => ?_) (by omega)
  · rw [joinR, if_pos h]
    exact joinTo_inc l id 16
  · rw [joinR, if_pos h, join_mem hm h0] at hx
    rcases hx with rfl | hx
    · exact h0
    · exact mem_in hm x hx
theorem leave_right {l : List Int} {id : Int} (h : leaveE l id = 0) : memB (leaveR l id) = true ∧ (leaveR l id).length + 1 = l.length := by
  obtain ⟨hm, h0, hi, hl⟩ := leaveE_ok h
  have hlen := leave_len (mem_inc hm) id hi
  have := (mem_len hm).2
  rw [leaveR, if_pos h]
  refine ⟨mem_of (leave_inc (mem_inc hm) id) (fun x hx => mem_in hm x ((leave_mem l id x).1 hx).1) (by omega), hlen⟩
theorem join_then {l : List Int} {id : Int} (h : joinE l id = 0) : leaveE (joinR l id) id = 0 ∧ leaveR (joinR l id) id = l := by
  obtain ⟨hm, h0, hn, hl⟩ := joinE_ok h
  have hin : hasM (joinR l id) id = true := decide_eq_true (by rw [joinR, if_pos h, join_mem hm h0]; exact .inl rfl)
  have e : leaveE (joinR l id) id = 0 := by
    have := (mem_len hm).1
    rw [leaveE, if_neg (fun hc => hc ⟨join_right h, h0⟩), hin, if_neg (by decide), if_neg (by rw [(join_leave h).2]; omega)]
  exact ⟨e, by rw [leaveR, if_pos e, (join_leave h).1]⟩
theorem leave_then {l : List Int} {id : Int} (h : leaveE l id = 0) : joinE (leaveR l id) id = 0 ∧ joinR (leaveR l id) id = l := by
  obtain ⟨hm, h0, hi, hl⟩ := leaveE_ok h
  have hR : leaveR l id = leaveF l id := by rw [leaveR, if_pos h]
  have hno : ¬ hasM (leaveR l id) id = true := fun hc => by
    have := of_decide_eq_true hc
    rw [hR, leave_mem] at this
    exact this.2 rfl
  have e : joinE (leaveR l id) id = 0 := by
    have h2 := (leave_right h).2
    have := (mem_len hm).2
    rw [joinE, if_neg (fun hc => hc ⟨(leave_right h).1, h0⟩), if_neg hno, if_neg (by omega)]
  refine ⟨e, ?_⟩
  rw [joinR, if_pos e]
  refine inc_eq _ _ (joinTo_inc _ id 16) (mem_inc hm) (fun x => ?_)
  rw [join_mem (leave_right h).1 h0, hR, leave_mem]
  constructor
  · rintro (rfl | hx)
    · exact hi
    · exact hx.1
  · intro hx
    by_cases e : x = id
    · exact .inl e
    · exact .inr ⟨hx, e⟩
theorem has_join {l : List Int} {id : Int} (h : joinE l id = 0) (z : Int) : hasM (joinR l id) z = (decide (z = id) || hasM l z) := by
  obtain ⟨hm, h0, hn, hl⟩ := joinE_ok h
  have hiff : z ∈ joinR l id ↔ z = id ∨ z ∈ l := by rw [joinR, if_pos h, join_mem hm h0]
  unfold hasM
  by_cases h1 : z = id <;> by_cases h2 : z ∈ l <;> by_cases h3 : z ∈ joinR l id <;> simp_all
theorem has_leave {l : List Int} {id : Int} (h : leaveE l id = 0) (z : Int) : hasM (leaveR l id) z = (decide (z ≠ id) && hasM l z) := by
  have hiff : z ∈ leaveR l id ↔ z ∈ l ∧ z ≠ id := by rw [leaveR, if_pos h, leave_mem]
  unfold hasM
  by_cases h1 : z = id <;> by_cases h2 : z ∈ l <;> by_cases h3 : z ∈ leaveR l id <;> simp_all
end Go.Proofs.Ytpholamobedkhaa

/- Who signed a text, gathered. No walk here. -/
namespace Go.Proofs.Ytpholamobedkhaa
open Go.RowKit

/-- Numbers with one text. -/
def gP (t : ByteArray) (zs : List Int) : List (Int × ByteArray) := zs.map fun z => (z, t)
theorem gP_len (t : ByteArray) (zs : List Int) : (gP t zs).length = zs.length := by simp [gP]
theorem gP_app (t : ByteArray) (a b : List Int) : gP t (a ++ b) = gP t a ++ gP t b := by simp [gP]
theorem gP_mem (t : ByteArray) (zs : List Int) (z : Int) : (z, t) ∈ gP t zs ↔ z ∈ zs := by
  unfold gP
  rw [List.mem_map]
  constructor
  · rintro ⟨y, hy, h⟩
    have e : y = z := congrArg Prod.fst h
    rw [← e]
    exact hy
  · intro h
    exact ⟨z, h, rfl⟩
theorem gP_stands (t : ByteArray) (zs : List Int) (z : Int) : stands (gP t zs) (z, t) = hasM zs z := by
  by_cases h : z ∈ zs
  · rw [(stands_iff _ _).2 ((gP_mem t zs z).2 h)]
    exact (decide_eq_true h).symm
  · rw [stands_no (fun hm => h ((gP_mem t zs z).1 hm))]
    exact (decide_eq_false h).symm
/-- The members whose signature is there, each once. -/
def gOut (l : List Int) (t : ByteArray) (ss : List (Int × ByteArray)) : Nat → List Int
  | 0 => []
  | j + 1 => gOut l t ss j ++ (if stands ss (l.getD j 0, t) = true ∧ hasM (gOut l t ss j) (l.getD j 0) = false then [l.getD j 0] else [])
theorem gOut_yes {l : List Int} {t : ByteArray} {ss : List (Int × ByteArray)} {j : Nat} (h1 : stands ss (l.getD j 0, t) = true) (h2 : hasM (gOut l t ss j) (l.getD j 0) = false) : gOut l t ss (j + 1) = gOut l t ss j ++ [l.getD j 0] := by rw [gOut, if_pos ⟨h1, h2⟩]
theorem gOut_no {l : List Int} {t : ByteArray} {ss : List (Int × ByteArray)} {j : Nat} (h : ¬ (stands ss (l.getD j 0, t) = true ∧ hasM (gOut l t ss j) (l.getD j 0) = false)) : gOut l t ss (j + 1) = gOut l t ss j := by rw [gOut, if_neg h, List.append_nil]
theorem gOut_len (l : List Int) (t : ByteArray) (ss : List (Int × ByteArray)) : ∀ j, (gOut l t ss j).length ≤ j
  | 0 => Nat.le_refl _
  | j + 1 => by
    have := gOut_len l t ss j
    rw [gOut, List.length_append]
    split <;> simp <;> omega
theorem gOut_nodup (l : List Int) (t : ByteArray) (ss : List (Int × ByteArray)) : ∀ j, (gOut l t ss j).Nodup
  | 0 => List.Pairwise.nil
  | j + 1 => by
    rw [gOut]
    split
    · next h =>
      refine List.nodup_append.2 ⟨gOut_nodup l t ss j, by simp, fun x hx y hy => ?_⟩
      rw [List.mem_singleton.1 hy]
      intro e
      rw [e] at hx
      exact of_decide_eq_false h.2 hx
    · rw [List.append_nil]
      exact gOut_nodup l t ss j
theorem gOut_mem (l : List Int) (t : ByteArray) (ss : List (Int × ByteArray)) (z : Int) : ∀ j, j ≤ l.length → (z ∈ gOut l t ss j ↔ z ∈ l.take j ∧ (z, t) ∈ ss)
  | 0, _ => by simp [gOut]
  | j + 1, hj => by
    have ih := gOut_mem l t ss z j (by omega)
    have hl : l.getD j 0 = l[j]'(by omega) := getD_get l j (by omega)
    rw [List.take_add_one, List.getElem?_eq_getElem (show j < l.length by omega)]
    by_cases hc : stands ss (l.getD j 0, t) = true ∧ hasM (gOut l t ss j) (l.getD j 0) = false
    · rw [gOut_yes hc.1 hc.2, List.mem_append, List.mem_append, ih, hl]
      constructor
      · rintro (h | h)
        · exact ⟨.inl h.1, h.2⟩
        · have e := List.mem_singleton.1 h
          refine ⟨.inr (by simp [e]), ?_⟩
          rw [e, ← hl]
          exact (stands_iff _ _).1 hc.1
      · rintro ⟨h | h, h2⟩
        · exact .inl ⟨h, h2⟩
        · exact .inr (by simpa using h)
    · rw [gOut_no hc, List.mem_append, ih]
      constructor
      · rintro ⟨h, h2⟩
        exact ⟨.inl h, h2⟩
      · rintro ⟨h | h, h2⟩
        · exact ⟨h, h2⟩
        · have e : z = l.getD j 0 := by rw [hl]; simpa using h
          have hs : stands ss (l.getD j 0, t) = true := (stands_iff _ _).2 (by rw [← e]; exact h2)
          have hh : hasM (gOut l t ss j) (l.getD j 0) = true := by
            cases e2 : hasM (gOut l t ss j) (l.getD j 0) with
            | true => rfl
            | false => exact absurd ⟨hs, e2⟩ hc
          have := of_decide_eq_true hh
          rw [← e] at this
          exact ih.1 this
/-- A list of different ones is no longer than a list that has them all. -/
theorem nodup_len {α : Type} [DecidableEq α] : ∀ (a b : List α), a.Nodup → (∀ x, x ∈ a → x ∈ b) → a.length ≤ b.length
  | [], _, _, _ => Nat.zero_le _
  | x :: a, b, h1, h2 => by
    have hx := h2 x (List.mem_cons_self ..)
    have h3 := List.nodup_cons.1 h1
    have := nodup_len a (b.erase x) h3.2 (fun y hy => (List.mem_erase_of_ne (a := y) (b := x) (fun e => h3.1 (by rw [← e]; exact hy))).2 (h2 y (List.mem_cons_of_mem _ hy)))
    rw [List.length_erase_of_mem hx] at this
    have := List.length_pos_of_mem hx
    rw [List.length_cons]
    omega
theorem gP_nodup (t : ByteArray) {zs : List Int} (h : zs.Nodup) : (gP t zs).Nodup := List.pairwise_map.2 (h.imp (fun hab e => hab (congrArg Prod.fst e)))
theorem gOut_le (l : List Int) (t : ByteArray) (ss : List (Int × ByteArray)) (j : Nat) (hj : j ≤ l.length) : (gOut l t ss j).length ≤ ss.length := by
  rw [← gP_len t]
  refine nodup_len _ _ (gP_nodup t (gOut_nodup l t ss j)) (fun x hx => ?_)
  obtain ⟨z, hz, rfl⟩ := List.mem_map.1 hx
  exact ((gOut_mem l t ss z j hj).1 hz).2
/-- .. rising. -/
def gathL (l : List Int) (t : ByteArray) (ss : List (Int × ByteArray)) : List Int := (gOut l t ss l.length).mergeSort (fun a b => decide (a ≤ b))
theorem gathL_mem (l : List Int) (t : ByteArray) (ss : List (Int × ByteArray)) (z : Int) : z ∈ gathL l t ss ↔ z ∈ l ∧ (z, t) ∈ ss := by
  rw [gathL, List.mem_mergeSort, gOut_mem l t ss z l.length (Nat.le_refl _), List.take_length]
theorem gathL_inc (l : List Int) (t : ByteArray) (ss : List (Int × ByteArray)) : Inc (gathL l t ss) := by
  have h1 : (gathL l t ss).Pairwise (fun a b => decide (a ≤ b) = true) := List.pairwise_mergeSort (fun a b c h1 h2 => by simp at *; omega) (fun a b => by simp; omega) _
  have h2 : (gathL l t ss).Nodup := (List.mergeSort_perm _ _).nodup_iff.2 (gOut_nodup l t ss _)
  exact (List.pairwise_and_iff.2 ⟨h1, h2⟩).imp (fun {a b} h => by have := of_decide_eq_true h.1; have := h.2; omega)
theorem gathL_eq {l : List Int} {t : ByteArray} {ss : List (Int × ByteArray)} {S : List Int} (h1 : Inc S) (h2 : ∀ z, z ∈ S ↔ z ∈ gOut l t ss l.length) : S = gathL l t ss :=
  inc_eq _ _ h1 (gathL_inc l t ss) (fun z => by rw [h2, gOut_mem l t ss z l.length (Nat.le_refl _), List.take_length, gathL_mem])
end Go.Proofs.Ytpholamobedkhaa

/- The document's Gather. -/
namespace Go.Proofs.Ytpholamobedkhaa
open Go.RowKit

theorem Try.info62 : (Try.prog.info? 62).map (fun i => (i.zero, i.size, i.bytes)) = some (some (.agg #[.int .i64 0, .string ⟨#[]⟩]), 2, 24) := by kernel_rfl
theorem own_pairsT {w : World} {B : Nat} {v : Value} {ps : List (Int × ByteArray)} {T : TypeId} (h : w.ownsRow B T 2 v ps.length (pC ps)) : ∃ ad cap, v = .slice ad ps.length cap ∧ PairsIn w ad ps := by
  rcases h.2 with ⟨hv, h0⟩ | ⟨g, cap, cur, hv, hB, hh, hx⟩
  · exact ⟨none, 0, by rw [hv, h0], .inl (List.eq_nil_of_length_eq_zero h0)⟩
  · refine ⟨_, cap, hv, .inr ⟨g, 0, rfl, lt_of_blk hh, fun j p hj => ?_⟩⟩
    subst hv
    have h1 := h.cells (g := g) rfl _ _ (pC_get ps j p hj).1
    have h2 := h.cells (g := g) rfl _ _ (pC_get ps j p hj).2
    rw [Addr.add_lit] at h1 h2
    exact ⟨h1, by rw [Nat.add_assoc]; exact h2⟩
/-! Sorting in place: all but the k-th of the first i + 1 rise. -/
theorem getD_set (L : List Int) (k j : Nat) (y : Int) (hk : k < L.length) : (L.set k y).getD j 0 = if j = k then y else L.getD j 0 := by
  rw [List.getD_eq_getElem?_getD, List.getD_eq_getElem?_getD, List.getElem?_set]
  by_cases h : k = j
  · rw [if_pos h, if_pos hk, if_pos h.symm]; rfl
  · rw [if_neg h, if_neg (fun e => h e.symm)]
def srt (L : List Int) (i k : Nat) : Prop := ∀ a b, a < b → b ≤ i → b ≠ k → L.getD a 0 < L.getD b 0
def rose (L : List Int) (i : Nat) : Prop := ∀ a b, a < b → b < i → L.getD a 0 < L.getD b 0
theorem rose.srt {L : List Int} {i : Nat} (h : rose L i) : srt L i i := fun a b h1 h2 h3 => h a b h1 (by omega)
def swp (L : List Int) (k : Nat) : List Int := (L.set (k + 1) (L.getD k 0)).set k (L.getD (k + 1) 0)
theorem swp_len (L : List Int) (k : Nat) : (swp L k).length = L.length := by simp [swp]
theorem swp_get (L : List Int) (k j : Nat) (hk : k + 1 < L.length) : (swp L k).getD j 0 = if j = k then L.getD (k + 1) 0 else if j = k + 1 then L.getD k 0 else L.getD j 0 := by
  rw [swp, getD_set _ _ _ _ (by simp; omega), getD_set _ _ _ _ hk]
theorem swp_perm (L : List Int) (k : Nat) (hk : k + 1 < L.length) : (swp L k).Perm L := by
  have := List.set_set_perm hk (show k < L.length by omega)
  rw [swp, getD_get L k (by omega), getD_get L (k + 1) hk]
  exact this
theorem srt.swp {L : List Int} {i k : Nat} (h : srt L i (k + 1)) (hi : i < L.length) (hk : k + 1 ≤ i) (hg : L.getD (k + 1) 0 < L.getD k 0) : srt (swp L k) i k := fun a b h1 h2 h3 => by
  rw [swp_get L k a (by omega), swp_get L k b (by omega)]
  rw [if_neg h3]
  by_cases hb : b = k + 1
  · rw [if_pos hb]
    by_cases ha : a = k
    · rw [if_pos ha]; exact hg
    · rw [if_neg ha, if_neg (by omega)]
      exact h a k (by omega) (by omega) (by omega)
  · rw [if_neg hb]
    by_cases ha : a = k
    · rw [if_pos ha]; exact h (k + 1) b (by omega) h2 hb
    · rw [if_neg ha]
      by_cases ha2 : a = k + 1
      · rw [if_pos ha2]; exact h k b (by omega) h2 hb
      · rw [if_neg ha2]; exact h a b h1 h2 hb
theorem srt.first {L : List Int} {i : Nat} (h : srt L i 0) : rose L (i + 1) := fun a b h1 h2 => h a b h1 (by omega) (by omega)
theorem srt.here {L : List Int} {i k : Nat} (h : srt L i (k + 1)) (hd : L.Nodup) (hi : i < L.length) (hk : k + 1 ≤ i) (hg : ¬ (L.getD (k + 1) 0 < L.getD k 0)) : rose L (i + 1) := fun a b h1 h2 => by
  have hne : L.getD k 0 ≠ L.getD (k + 1) 0 := fun e => by
    rw [getD_get L k (by omega), getD_get L (k + 1) (by omega)] at e
    exact List.pairwise_iff_getElem.1 hd k (k + 1) (by omega) (by omega) (by omega) e
  by_cases hb : b = k + 1
  · subst hb
    by_cases ha : a = k
    · subst ha; omega
    · have := h a k (by omega) (by omega) (by omega)
      omega
  · exact h a b h1 (by omega) hb
theorem rose.inc {L : List Int} (h : rose L L.length) : Inc L := List.pairwise_iff_getElem.2 (fun a b ha hb hab => by
  have := h a b hab hb
  rwa [getD_get L a ha, getD_get L b hb] at this)
/-! .. in memory. -/
theorem pC_set (ps : List (Int × ByteArray)) : ∀ (k : Nat) (p : Int × ByteArray), (((pC ps).set (k * 2) (.int .i64 p.1)).set (k * 2 + 1) (.string p.2)) = pC (ps.set k p) := by
  induction ps with
  | nil => intro k p; rfl
  | cons q ps ih =>
    intro k p
    cases k with
    | zero => rfl
    | succ k =>
      rw [pC_cons, show (k + 1) * 2 = k * 2 + 1 + 1 by omega, List.set_cons_succ, List.set_cons_succ, List.set_cons_succ, List.set_cons_succ, ih k p, List.set_cons_succ, pC_cons]
theorem gP_set (t : ByteArray) (L : List Int) (k : Nat) (x : Int) : gP t (L.set k x) = (gP t L).set k (x, t) := by simp [gP, List.map_set]
theorem own_cellset {w : World} {B z : Nat} {g cp n : Nat} {xs : List Value} {e : TypeId} (h : w.ownsRow B e z (.slice (some ⟨g, 0, none⟩) n cp) n xs) (o : Nat) (x : Value) : (w.setCell ⟨g, o, none⟩ x).ownsRow B e z (.slice (some ⟨g, 0, none⟩) n cp) n (xs.set o x) := by
  refine ⟨by rw [List.length_set]; exact h.1, ?_⟩
  rcases h.2 with ⟨hv, _⟩ | ⟨g', cap, cur, hv, hB, hh, hc1, hc2, hc3, hc4⟩
  · exact absurd hv (by simp)
  · cases hv
    refine .inr ⟨g, cp, _, rfl, hB, (blk_set hh o x).trans rfl, hc1, hc2, by simp [hc3], ?_⟩
    rw [← hc4]
    simp [List.take_set]
theorem own_two {w : World} {B : Nat} {g cp n : Nat} {ps : List (Int × ByteArray)} {e : TypeId} (h : w.ownsRow B e 2 (.slice (some ⟨g, 0, none⟩) n cp) n (pC ps)) (k : Nat) (p : Int × ByteArray) : ((w.setCell ⟨g, k * 2, none⟩ (.int .i64 p.1)).setCell ⟨g, k * 2 + 1, none⟩ (.string p.2)).ownsRow B e 2 (.slice (some ⟨g, 0, none⟩) n cp) n (pC (ps.set k p)) := by
  have := own_cellset (own_cellset h (k * 2) (.int .i64 p.1)) (k * 2 + 1) (.string p.2)
  rwa [pC_set] at this
theorem ownsRow_low {w : World} {B B' : Nat} {e : TypeId} {z : Nat} {v : Value} {n : Nat} {xs : List Value} (h : w.ownsRow B e z v n xs) (hB : B' ≤ B) : w.ownsRow B' e z v n xs := by
  refine ⟨h.1, ?_⟩
  rcases h.2 with hn | ⟨g, cap, cur, hv, hg, hx⟩
  · exact .inl hn
  · exact .inr ⟨g, cap, cur, hv, by omega, hx⟩
theorem below_drewN (w : World) (n : Nat) : Below w.heap.size w (w.drewN n) := ⟨rfl, rfl, rfl, Nat.le_refl _, fun _ _ => rfl⟩
/-- What is gathered so far lies in a row of its own. -/
structure GaSt (w0 w : World) (v : Value) (t : ByteArray) (O : List Int) : Prop where
  own : w.ownsRow w0.heap.size 62 2 v O.length (pC (gP t O))
  bel : Below w0.heap.size w0 w
theorem GaSt.keep {w0 w w' : World} {v : Value} {t : ByteArray} {O : List Int} (h : GaSt w0 w v t O) (hb : Below w.heap.size w w') : GaSt w0 w' v t O := ⟨ownsRow_keep h.own hb, h.bel.trans (hb.mono h.bel.size)⟩
theorem GaSt.pairs {w0 w : World} {v : Value} {t : ByteArray} {O : List Int} (h : GaSt w0 w v t O) : ∃ ad cap, v = .slice ad O.length cap ∧ PairsIn w ad (gP t O) := by
  obtain ⟨ad, cap, hv, hi⟩ := own_pairsT (ps := gP t O) (by rw [gP_len]; exact h.own)
  rw [gP_len] at hv
  exact ⟨ad, cap, hv, hi⟩
theorem GaSt.cells {w0 w : World} {g n cp : Nat} {t : ByteArray} {L : List Int} (h : GaSt w0 w (.slice (some ⟨g, 0, none⟩) n cp) t L) (k : Nat) (hk : k < L.length) : w.cell? ⟨g, k * 2, none⟩ = some (.int .i64 (L.getD k 0)) ∧ w.cell? ⟨g, k * 2 + 1, none⟩ = some (.string t) := by
  have hp : (gP t L)[k]? = some (L.getD k 0, t) := by rw [gP, List.getElem?_map, getD_some hk]; rfl
  have h1 := h.own.cells (g := g) rfl _ _ (pC_get _ k _ hp).1
  have h2 := h.own.cells (g := g) rfl _ _ (pC_get _ k _ hp).2
  rw [Addr.add_lit, Nat.zero_add] at h1 h2
  exact ⟨h1, h2⟩
theorem GaSt.blk {w0 w : World} {g n cp : Nat} {t : ByteArray} {L : List Int} (h : GaSt w0 w (.slice (some ⟨g, 0, none⟩) n cp) t L) : w0.heap.size ≤ g ∧ g < w.heap.size := h.own.lt g rfl
theorem GaSt.free {w0 w : World} {g n cp : Nat} {t : ByteArray} {L : List Int} (h : GaSt w0 w (.slice (some ⟨g, 0, none⟩) n cp) t L) (hn : L.length = n) (j : Nat) : w.frozen? ⟨g, j, none⟩ = false := by
  subst hn
  exact h.own.frozenAt j
theorem GaSt.put {w0 w : World} {g n cp : Nat} {t : ByteArray} {L : List Int} (h : GaSt w0 w (.slice (some ⟨g, 0, none⟩) n cp) t L) (hn : L.length = n) (k : Nat) (y : Int) : GaSt w0 ((w.setCell ⟨g, k * 2, none⟩ (.int .i64 y)).setCell ⟨g, k * 2 + 1, none⟩ (.string t)) (.slice (some ⟨g, 0, none⟩) n cp) t (L.set k y) := by
  subst hn
  refine ⟨?_, (h.bel.setCell h.blk.1 _).setCell h.blk.1 _⟩
  rw [List.length_set, gP_set]
  exact own_two h.own k (y, t)
end Go.Proofs.Ytpholamobedkhaa
