/- Texts laid together: OpC LtB LtC. -/
import Derived.Test.YtpeagpeifmimlaaMx8
import Derived.Test.YtpeagpeifmimlaaMx2
import Derived.Test.YtpeagpeifmimlaaMx6
import Derived.Test.YtpeagpeifmimlaaMx4
/- Arguments of the laws of the ledger, opened: a configuration, scripts. No walk here. -/
namespace Go.Proofs.Ytpeagpeifmimlaa
open Go.ChangeShapes Go.WideShapes Go.ChangeAt Go.RowKit

/-- A step: a turn, or what is asked. -/
abbrev Stp := Bool × Rq
def opC (o : Stp) : List Value := [.bool o.1, .int .i64 o.2.c, .int .i64 o.2.st, .int .i64 o.2.k, .string o.2.key, .int .u64 (o.2.b : Int), .int .i64 o.2.id]
/-- Scripts in memory. -/
def StpsIn (w : World) (ad : Option Addr) (os : List Stp) : Prop := os = [] ∨ ∃ g off, ad = some ⟨g, off, none⟩ ∧ g < w.heap.size ∧ ∀ (j : Nat) (o : Stp), os[j]? = some o → ∀ (q : Nat) (v : Value), (opC o)[q]? = some v → w.cell? ⟨g, off + j * 7 + q, none⟩ = some v
theorem StpsIn.keep {w w' : World} {ad : Option Addr} {os : List Stp} {B : Nat} (h : StpsIn w ad os) (hb : Below B w w') (hB : w.heap.size ≤ B) : StpsIn w' ad os := by
  rcases h with h | ⟨g, off, ha, hg, hc⟩
  · exact .inl h
  · exact .inr ⟨g, off, ha, Nat.lt_of_lt_of_le hg hb.size, fun j o ho q v hv => (World.cell?_of_block (a := ⟨g, off + j * 7 + q, none⟩) (hb.block g (by omega))).trans (hc j o ho q v hv)⟩
def stB (o : Stp) : Prop := o.2.key.size ≤ maxLen ∧ o.2.b < 18446744073709551616
def shInts : Sh := .l 8 1 .i
def shConf : Sh := .st (.c .i (.c shInts .u))
def shAsk : Sh := .st (.c .i (.c .i (.c .i (.c .s (.c .q (.c .i .u))))))
def shOp : Sh := .st (.c .b (.c shAsk .u))
def shOps : Sh := .l 64 7 shOp
theorem of_ints : shInts.Of Try.prog (.inl 22) := ⟨_, Try.underlying22, by kernel_rfl, by kernel_rfl, rfl, by decide, Try.underlying3⟩
theorem of_conf : shConf.Of Try.prog (.inl 24) := ⟨_, Try.underlying24, by kernel_rfl, ⟨_, _, rfl, rfl, by kernel_rfl, Try.underlying3, ⟨_, _, rfl, rfl, by kernel_rfl, of_ints, rfl⟩⟩⟩
theorem of_ask : shAsk.Of Try.prog (.inl 28) := ⟨_, Try.underlying28, by kernel_rfl, ⟨_, _, rfl, rfl, by kernel_rfl, Try.underlying3, ⟨_, _, rfl, rfl, by kernel_rfl, Try.underlying3, ⟨_, _, rfl, rfl, by kernel_rfl, Try.underlying3, ⟨_, _, rfl, rfl, by kernel_rfl, Try.underlying9, ⟨_, _, rfl, rfl, by kernel_rfl, Try.underlying26, ⟨_, _, rfl, rfl, by kernel_rfl, Try.underlying3, rfl⟩⟩⟩⟩⟩⟩⟩
theorem of_op : shOp.Of Try.prog (.inl 59) := ⟨_, Try.underlying59, by kernel_rfl, ⟨_, _, rfl, rfl, by kernel_rfl, Try.underlying4, ⟨_, _, rfl, rfl, by kernel_rfl, of_ask, rfl⟩⟩⟩
theorem of_ops : shOps.Of Try.prog (.inl 25) := ⟨_, Try.underlying25, by kernel_rfl, by kernel_rfl, rfl, by decide, of_op⟩
theorem fits_map {α : Type} {f : α → List Dat} {Q : α → Prop} : ∀ (es : List (List Dat)), (∀ d, d ∈ es → ∃ x, d = f x ∧ Q x) → ∃ xs : List α, es = xs.map f ∧ ∀ x, x ∈ xs → Q x
  | [], _ => ⟨[], rfl, fun x h => by cases h⟩
  | e :: es, h => by
    obtain ⟨x, rfl, hx⟩ := h e (List.mem_cons_self ..)
    obtain ⟨xs, rfl, hxs⟩ := fits_map es (fun d hd => h d (List.mem_cons_of_mem _ hd))
    refine ⟨x :: xs, rfl, fun y hy => ?_⟩
    rcases List.mem_cons.1 hy with rfl | hy
    · exact hx
    · exact hxs y hy
section
variable {S : Prop} {U : Nat}
theorem fits_ints {ds : List Dat} (h : Fits S U shInts ds) : ∃ xs : List Int, ds = [dInts xs] ∧ xs.length ≤ maxLen ∧ (S → xs.length * 8 ≤ 140737488351232) := by
  obtain ⟨es, rfl, h1, h2, _, h3⟩ := h
  obtain ⟨xs, rfl, _⟩ := fits_map (f := fun x : Int => [Dat.i x]) (Q := fun _ => True) es (fun d hd => by obtain ⟨x, hx, _⟩ := h3 d hd; exact ⟨x, hx, trivial⟩)
  rw [List.length_map] at h1 h2
  exact ⟨xs, rfl, h1, h2⟩
theorem fits_conf {ds : List Dat} (h : Fits S U shConf ds) : ∃ (e : Int) (xs : List Int), ds = [.i e, dInts xs] ∧ xs.length ≤ maxLen ∧ (S → xs.length * 8 ≤ 140737488351232) := by
  obtain ⟨d1, d2, rfl, ⟨x, rfl, _⟩, d3, d4, rfl, h3, rfl⟩ := h
  obtain ⟨xs, rfl, h4, h5⟩ := fits_ints h3
  exact ⟨x, xs, rfl, h4, h5⟩
def dOp (o : Stp) : List Dat := [.b o.1, .i o.2.c, .i o.2.st, .i o.2.k, .s o.2.key, .q o.2.b, .i o.2.id]
theorem fits_op {ds : List Dat} (h : Fits S U shOp ds) : ∃ o : Stp, ds = dOp o ∧ stB o := by
  obtain ⟨d1, d2, rfl, ⟨x, rfl⟩, d3, d4, rfl, h3, rfl⟩ := h
  obtain ⟨e1, f1, rfl, ⟨x1, rfl, _⟩, e2, f2, rfl, ⟨x2, rfl, _⟩, e3, f3, rfl, ⟨x3, rfl, _⟩, e4, f4, rfl, ⟨x4, rfl, h4, _⟩, e5, f5, rfl, ⟨x5, rfl, h5⟩, e6, f6, rfl, ⟨x6, rfl, _⟩, rfl⟩ := h3
  exact ⟨(x, ⟨x1, x2, x3, x4, x5, x6⟩), rfl, h4, h5⟩
theorem fits_ops {ds : List Dat} (h : Fits S U shOps ds) : ∃ os : List Stp, ds = [.l 7 (os.map dOp)] ∧ os.length ≤ maxLen ∧ ∀ o, o ∈ os → stB o := by
  obtain ⟨es, rfl, h1, h2, _, h3⟩ := h
  obtain ⟨os, rfl, h4⟩ := fits_map (f := dOp) (Q := stB) es (fun d hd => fits_op (h3 d hd))
  rw [List.length_map] at h1
  exact ⟨os, rfl, h1, h4⟩
end
theorem reads_cell {G : Nat → Prop} {W : World} {o : Stp} {q : Nat} {v : Value} {u : Value} {d : Dat} (hv : (opC o)[q]? = some v) (hd : (dOp o)[q]? = some d) (h : Reads G W u d) : u = v := by
  match q, hv, hd with
  | 0, hv, hd => cases hv; cases hd; exact h.bool
  | 1, hv, hd => cases hv; cases hd; exact h.int
  | 2, hv, hd => cases hv; cases hd; exact h.int
  | 3, hv, hd => cases hv; cases hd; exact h.int
  | 4, hv, hd => cases hv; cases hd; exact h.str
  | 5, hv, hd => cases hv; cases hd; exact h.quad
  | 6, hv, hd => cases hv; cases hd; exact h.int
  | q + 7, hv, hd => cases hv
theorem reads_ops {G : Nat → Prop} {W : World} {v : Value} {os : List Stp} (h : Reads G W v (.l 7 (os.map dOp))) : ∃ ad cap, v = .slice ad os.length cap ∧ StpsIn W ad os := by
  generalize hd : Dat.l 7 (os.map dOp) = d at h
  cases h with
  | nil ad cap sz =>
    cases os with
    | nil => exact ⟨ad, cap, rfl, .inl rfl⟩
    | cons o os => cases hd
  | l g off cap sz es c hF hg hs hc hr =>
    cases hd
    refine ⟨_, cap, by rw [List.length_map], .inr ⟨g, off, rfl, hg, fun j o ho q u hu => ?_⟩⟩
    have hj : (os.map dOp)[j]? = some (dOp o) := by rw [List.getElem?_map, ho]; rfl
    have hq : q < (dOp o).length := by
      have := (List.getElem?_eq_some_iff.1 hu).1
      exact this
    have hq2 : (dOp o)[q]? = some ((dOp o)[q]'hq) := List.getElem?_eq_getElem hq
    rw [hc j _ q _ hj hq2, reads_cell hu hq2 (hr j _ q _ hj hq2)]
  | _ => cases hd
section
variable {H : Type} {enc : TypeId × Value → H} {W : World} {fuel : Nat} {x : DataW H × List MemPlace}
theorem open_conf {c0 c1 : Value} (h : DataW.trod enc Try.prog W 0 (fun _ => true) true fuel 24 [c0, c1] = some x) :
    ∃ (e : Int) (ad : Option Addr) (cap : Nat) (xs : List Int), c0 = .int .i64 e ∧ c1 = .slice ad xs.length cap ∧ xs.length ≤ maxLen ∧ IntsIn W ad xs ∧ ((∀ m ∈ x.1.weights Try.prog 24, m ≤ reachBytes) → xs.length * 8 ≤ 140737488351232) := by
  obtain ⟨ds, hf, hc⟩ := (opens_all Try.prog shConf).1 _ _ _ _ of_conf h
  obtain ⟨e, xs, rfl, h1, h2⟩ := fits_conf hf
  obtain ⟨u0, e0, r0, _⟩ := hc 0 _ rfl
  obtain ⟨u1, e1, r1, _⟩ := hc 1 _ rfl
  cases e0
  cases e1
  obtain ⟨ad, cap, hv, hi, _⟩ := reads_ints r1
  exact ⟨e, ad, cap, xs, r0.int, hv, h1, hi, h2⟩
theorem open_stps {ad : Option Addr} {len cap : Nat} (h : DataW.trod enc Try.prog W 0 (fun _ => true) true fuel 25 [.slice ad len cap] = some x) :
    ∃ os : List Stp, os.length = len ∧ os.length ≤ maxLen ∧ StpsIn W ad os ∧ ∀ o, o ∈ os → stB o := by
  obtain ⟨ds, hf, hc⟩ := (opens_all Try.prog shOps).1 _ _ _ _ of_ops h
  obtain ⟨os, rfl, h1, h2⟩ := fits_ops hf
  obtain ⟨u0, e0, r0, _⟩ := hc 0 _ rfl
  cases e0
  obtain ⟨ad', cap', hv, hi⟩ := reads_ops r0
  cases hv
  exact ⟨os, rfl, h1, hi, h2⟩
theorem open_ask {c0 c1 c2 c3 c4 c5 : Value} (h : DataW.trod enc Try.prog W 0 (fun _ => true) true fuel 28 [c0, c1, c2, c3, c4, c5] = some x) :
    ∃ q : Rq, c0 = .int .i64 q.c ∧ c1 = .int .i64 q.st ∧ c2 = .int .i64 q.k ∧ c3 = .string q.key ∧ c4 = .int .u64 (q.b : Int) ∧ c5 = .int .i64 q.id ∧ q.key.size ≤ maxLen ∧ q.b < 18446744073709551616 := by
  obtain ⟨ds, hf, hc⟩ := (opens_all Try.prog shAsk).1 _ _ _ _ of_ask h
  obtain ⟨e1, f1, rfl, ⟨x1, rfl, _⟩, e2, f2, rfl, ⟨x2, rfl, _⟩, e3, f3, rfl, ⟨x3, rfl, _⟩, e4, f4, rfl, ⟨x4, rfl, h4, _⟩, e5, f5, rfl, ⟨x5, rfl, h5⟩, e6, f6, rfl, ⟨x6, rfl, _⟩, rfl⟩ := hf
  obtain ⟨u0, p0, r0, _⟩ := hc 0 (.i x1) rfl
  obtain ⟨u1, p1, r1, _⟩ := hc 1 (.i x2) rfl
  obtain ⟨u2, p2, r2, _⟩ := hc 2 (.i x3) rfl
  obtain ⟨u3, p3, r3, _⟩ := hc 3 (.s x4) rfl
  obtain ⟨u4, p4, r4, _⟩ := hc 4 (.q x5) rfl
  obtain ⟨u5, p5, r5, _⟩ := hc 5 (.i x6) rfl
  cases p0
  cases p1
  cases p2
  cases p3
  cases p4
  cases p5
  exact ⟨⟨x1, x2, x3, x4, x5, x6⟩, r0.int, r1.int, r2.int, r3.str, r4.quad, r5.int, h4, h5⟩
end
end Go.Proofs.Ytpeagpeifmimlaa

/- A ledger behind a script. -/
namespace Go.Proofs.Ytpeagpeifmimlaa
open Go.RowKit

def stepS (s : Ls) (o : Stp) : Ls := if o.1 then turnS s else doS s o.2
def playS : Ls → List Stp → Ls
  | s, [] => s
  | s, o :: os => playS (stepS s o) os
theorem play_take {s : Ls} {os : List Stp} {j : Nat} {o : Stp} (h : os[j]? = some o) : playS s (os.take (j + 1)) = stepS (playS s (os.take j)) o := by
  induction os generalizing s j with
  | nil => simp at h
  | cons x xs ih =>
    cases j with
    | zero => simp at h; subst h; rfl
    | succ j => exact ih (by simpa using h)
theorem stepS_ok {s : Ls} (h : LOk s) {o : Stp} (hb : stB o) : LOk (stepS s o) := by
  rw [stepS]
  split
  · exact turnS_ok h
  · exact doS_ok h hb.2
theorem play_ok {s : Ls} (h : LOk s) : ∀ os : List Stp, (∀ o, o ∈ os → stB o) → LOk (playS s os)
  | [], _ => h
  | o :: os, hb => play_ok (stepS_ok h (hb o (List.mem_cons_self ..))) os (fun x hx => hb x (List.mem_cons_of_mem _ hx))
structure StAt (w : World) (ad : Option Addr) (j : Nat) (o : Stp) (g off : Nat) : Prop where
  is : ad = some ⟨g, off, none⟩
  lt : g < w.heap.size
  cell : ∀ (q : Nat) (v : Value), (opC o)[q]? = some v → w.cell? ⟨g, off + j * 7 + q, none⟩ = some v
theorem StpsIn.at {w : World} {ad : Option Addr} {os : List Stp} (h : StpsIn w ad os) {j : Nat} {o : Stp} (hj : os[j]? = some o) : ∃ g off, StAt w ad j o g off := by
  rcases h with rfl | ⟨g, off, ha, hg, hc⟩
  · simp at hj
  · exact ⟨g, off, ha, hg, hc j o hj⟩
theorem StAt.keep {w w' : World} {ad : Option Addr} {j : Nat} {o : Stp} {g off : Nat} (h : StAt w ad j o g off) (hb : Below w.heap.size w w') : StAt w' ad j o g off :=
  ⟨h.is, Nat.lt_of_lt_of_le h.lt hb.size, fun q v hv => (World.cell?_of_block (a := ⟨g, off + j * 7 + q, none⟩) (hb.block g h.lt)).trans (h.cell q v hv)⟩
section
variable {w : World} {ad : Option Addr} {j : Nat} {o : Stp} {g off : Nat}
theorem StAt.k0 (h : StAt w ad j o g off) : w.cell? ⟨g, off + j * 7, none⟩ = some (.bool o.1) := h.cell 0 _ rfl
theorem StAt.k1 (h : StAt w ad j o g off) : w.cell? ⟨g, off + j * 7 + 1, none⟩ = some (.int .i64 o.2.c) := h.cell 1 _ rfl
theorem StAt.k2 (h : StAt w ad j o g off) : w.cell? ⟨g, off + j * 7 + 2, none⟩ = some (.int .i64 o.2.st) := h.cell 2 _ rfl
theorem StAt.k3 (h : StAt w ad j o g off) : w.cell? ⟨g, off + j * 7 + 3, none⟩ = some (.int .i64 o.2.k) := h.cell 3 _ rfl
theorem StAt.k4 (h : StAt w ad j o g off) : w.cell? ⟨g, off + j * 7 + 4, none⟩ = some (.string o.2.key) := h.cell 4 _ rfl
theorem StAt.k5 (h : StAt w ad j o g off) : w.cell? ⟨g, off + j * 7 + 5, none⟩ = some (.int .u64 (o.2.b : Int)) := h.cell 5 _ rfl
theorem StAt.k6 (h : StAt w ad j o g off) : w.cell? ⟨g, off + j * 7 + 6, none⟩ = some (.int .i64 o.2.id) := h.cell 6 _ rfl
end
set_option maxRecDepth 100000 in
set_option maxHeartbeats 6400000 in
theorem eplayed_yes (a : Option Addr) (n cap : Nat) (l : List Int) (hn : l.length = n) (sa : Option Addr) (sc : Nat) (os : List Stp) (hol : os.length ≤ maxLen) (hos : ∀ o, o ∈ os → stB o) (w : World) (hI : IntsIn w a l) (hr : rightC 0 l = true) (hS : StpsIn w sa os) :
    Calls Try.prog 6 #[.agg #[.int .i64 0, .slice a n cap], .slice sa os.length sc] w fun e w' => ∃ g F, e = .returned (.pointer (some ⟨g, 0, none⟩)) ∧ LvSt w w' F (.pointer (some ⟨g, 0, none⟩)) (playS (newS l) os) := by
  have hax := (Below.refl w.heap.size w).alloc (Nat.le_refl _) (.cells #[.int .i64 0, .slice a n cap] 24)
  have hl2 : (os.length : Int) ≤ 9223372036854775807 := by unfold maxLen at hol; omega
  have HNw : Hid (Calls Try.prog 19 #[.agg #[.int .i64 0, .slice a n cap]] (w.alloc (.cells #[.int .i64 0, .slice a n cap] 24)) fun r w' => ∃ g F, r = .returned (.tuple #[.pointer (some ⟨g, 0, none⟩), .int .i64 0]) ∧ LvSt w w' F (.pointer (some ⟨g, 0, none⟩)) (newS l)) := hid
    ((gnew_yes a n cap l hn _ (hI.keep hax (Nat.le_refl _)) hr).mono fun e w' ⟨v, F, h1, h2, h3, h4⟩ => by
      obtain ⟨g, rfl⟩ := h2.ptr
      exact ⟨g, F, h1, h2, fun b hb => Nat.le_trans hax.size (h3 b hb), hax.trans (h4.mono hax.size)⟩)
  have HS := hid (And.intro hS hos)
  clear hax hI hn hr hS hos hol
  go_enter Try.func6, Try.ntmps6
  go_wp2_with (go_at_call 19; refine HNw.out.mono ?_; rintro e w1 ⟨g, F, rfl, h⟩; have H1 := hid h; clear h)
  go_loopw [7] (fun i wr => ∃ (j : Nat) (F : List Nat), j ≤ os.length ∧ i = .int .i64 (j : Int) ∧ LvSt w wr F (.pointer (some ⟨g, 0, none⟩)) (playS (newS l) (os.take j)))
    (fun i _ => ((os.length : Int) - intOf i).toNat)
  case atStart => exact ⟨0, _, by omega, rfl, H1.out⟩
  case round =>
    obtain ⟨j, Fj, hj, rfl, hP⟩ := hrel
    have HP := hid hP
    clear hP
    by_cases hjn : j = os.length
    · have hj1 : ¬ ((j : Int) < (os.length : Int)) := by omega
      have HP2 : Hid (LvSt w wr Fj (.pointer (some ⟨g, 0, none⟩)) (playS (newS l) os)) := hid (by have := HP.out; rw [hjn, List.take_length] at this; exact this)
      clear hj hjn
      go_wp2
      go_ret
      exact ⟨g, rfl, Fj, HP2.out⟩
    · have hj1 : (j : Int) < (os.length : Int) := by omega
      have hj0 : (0 : Int) ≤ (j : Int) := Int.natCast_nonneg _
      obtain ⟨o, ho⟩ : ∃ o, os[j]? = some o := ⟨_, List.getElem?_eq_getElem (by omega)⟩
      obtain ⟨b, off, hst⟩ := HS.out.1.at ho
      have HA := hid (hst.keep HP.out.bel)
      have HB := hid (HS.out.2 _ (List.mem_of_getElem? ho))
      have hsa := hst.is
      subst hsa
      have HT := hid (play_take (s := newS l) ho)
      have HJ := hid (And.intro hj hjn)
      clear hst ho hj hjn
      have k0 := HA.out.k0
      have k1 := HA.out.k1
      have k2 := HA.out.k2
      have k3 := HA.out.k3
      have k4 := HA.out.k4
      have k5 := HA.out.k5
      have k6 := HA.out.k6
      obtain ⟨t, r⟩ := o
      cases t with
      | true =>
        go_wp2_with (go_at_call 21; refine (gturn_any HP.out.ld).mono ?_; rintro e w2 ⟨rfl, h⟩; have H2 := hid h; clear h)
        go_roundw
        case rel =>
          obtain ⟨F2, h2⟩ := HP.out.to H2.out
          exact ⟨j + 1, F2, by have := HJ.out; omega, rfl, by rw [HT.out]; exact h2⟩
        case measure => have := HJ.out; simp [intOf]; omega
      | false =>
        go_wp2_with (first
          | (go_at_call 7; refine (drequest_any r _).mono ?_; rintro e w2 ⟨rfl, hb⟩; have H2 := hid (HP.out.keep hb); clear hb)
          | (go_at_call 9; refine (gdo_any H2.out.ld r HB.out.2).mono ?_; rintro e w3 ⟨rfl, h⟩; have H3 := hid h; clear h))
        go_roundw
        case rel =>
          obtain ⟨F2, h2⟩ := H2.out.to H3.out
          exact ⟨j + 1, F2, by have := HJ.out; omega, rfl, by rw [HT.out]; exact h2⟩
        case measure => have := HJ.out; simp [intOf]; omega
set_option maxRecDepth 100000 in
set_option maxHeartbeats 1600000 in
theorem eplayed_no (ep : Int) (a : Option Addr) (n cap : Nat) (l : List Int) (hn : l.length = n) (hm : n ≤ maxLen) (sa : Option Addr) (sn sc : Nat) (w : World) (hI : IntsIn w a l) (hr : rightC ep l = false ∨ ep ≠ 0) :
    Calls Try.prog 6 #[.agg #[.int .i64 ep, .slice a n cap], .slice sa sn sc] w fun e w' => e = .returned (.pointer none) ∧ Below w.heap.size w w' := by
  have hax := (Below.refl w.heap.size w).alloc (Nat.le_refl _) (.cells #[.int .i64 ep, .slice a n cap] 24)
  have HNw : Hid (Calls Try.prog 19 #[.agg #[.int .i64 ep, .slice a n cap]] (w.alloc (.cells #[.int .i64 ep, .slice a n cap] 24)) fun r w' => r = .returned (.tuple #[.pointer none, .int .i64 1]) ∧ Below w.heap.size w w') := hid
    ((gnew_no ep a n cap l hn hm _ (hI.keep hax (Nat.le_refl _)) hr).mono fun e w' ⟨h1, h4⟩ => ⟨h1, hax.trans (h4.mono hax.size)⟩)
  clear hax hI hn hr hm
  go_enter Try.func6, Try.ntmps6
  go_wp2_with (go_at_call 19; refine HNw.out.mono ?_; rintro e w1 ⟨rfl, h⟩; have H1 := hid h; clear h)
  go_ret
  exact ⟨rfl, H1.out⟩
end Go.Proofs.Ytpeagpeifmimlaa

/- One ledger that moves, and what stays beside it. -/
namespace Go.Proofs.Ytpeagpeifmimlaa
open Go.RowKit

/-- What hangs on these blocks alone. -/
def Stable (L : List Nat) (R : World → Prop) : Prop := ∀ w w' : World, R w → w.heap.size ≤ w'.heap.size → (∀ b, b ∈ L → w'.heap[b]? = w.heap[b]?) → R w'
theorem stable_true : Stable [] (fun _ => True) := fun _ _ _ _ _ => trivial
theorem stable_and {L M : List Nat} {R S : World → Prop} (h1 : Stable L R) (h2 : Stable M S) : Stable (L ++ M) (fun u => R u ∧ S u) := fun w w' h hs hb =>
  ⟨h1 w w' h.1 hs (fun b hm => hb b (List.mem_append.2 (.inl hm))), h2 w w' h.2 hs (fun b hm => hb b (List.mem_append.2 (.inr hm)))⟩
theorem stable_rs (b : Nat) (c : Int) (f : Nat) : Stable [b] (fun u => RsAt u b c f) := fun _ _ h _ hb => (hb b (List.mem_singleton.2 rfl)).trans h
theorem stable_rq (b : Nat) (q : Rq) : Stable [b] (fun u => RqAt u b q) := fun _ _ h _ hb => (hb b (List.mem_singleton.2 rfl)).trans h
theorem stable_cf (b : Nat) (e : Int) (v : Value) : Stable [b] (fun u => GfAt u b e v) := fun _ _ h _ hb => (hb b (List.mem_singleton.2 rfl)).trans h
theorem stable_ld (F : List Nat) (v : Value) (s : Ls) : Stable F (fun u => LdAt F u v s) := fun _ _ h hs hb => h.stay hs hb
structure SgSt (w0 w : World) (L : List Nat) (R : World → Prop) (F : List Nat) (v : Value) (s : Ls) : Prop where
  lv : LvSt w0 w F v s
  st : Stable L R
  lt : ∀ b, b ∈ L → b < w.heap.size
  r : R w
  ap : ∀ b, b ∈ L → b ∉ F
section
variable {w0 w w' : World} {L : List Nat} {R : World → Prop} {F : List Nat} {v : Value} {s : Ls}
theorem SgSt.of (h : LvSt w0 w F v s) : SgSt w0 w [] (fun _ => True) F v s := ⟨h, stable_true, (fun b hb => by cases hb), trivial, (fun b hb => by cases hb)⟩
theorem SgSt.keep (h : SgSt w0 w L R F v s) (hb : Below w.heap.size w w') : SgSt w0 w' L R F v s :=
  ⟨h.lv.keep hb, h.st, fun b hm => Nat.lt_of_lt_of_le (h.lt b hm) hb.size, h.st w w' h.r hb.size (fun b hm => hb.block b (h.lt b hm)), h.ap⟩
theorem SgSt.to {s' : Ls} (h : SgSt w0 w L R F v s) (ht : LdTo F w w' v s') : ∃ F', SgSt w0 w' L R F' v s' := by
  obtain ⟨F', h1, h2, h3⟩ := ht
  refine ⟨F', ⟨h1, fun b hb => ?_, h.lv.bel.trans (h3.below h.lv.bel.size h.lv.new)⟩, h.st, fun b hm => Nat.lt_of_lt_of_le (h.lt b hm) h3.size, h.st w w' h.r h3.size (fun b hm => h3.block b (h.lt b hm) (h.ap b hm)), fun b hm hF => ?_⟩
  · rcases h2 b hb with h4 | h4
    · exact h.lv.new b h4
    · exact Nat.le_trans h.lv.bel.size h4
  · rcases h2 b hF with h4 | h4
    · exact h.ap b hm h4
    · exact Nat.lt_irrefl _ (Nat.lt_of_lt_of_le (h.lt b hm) h4)
theorem SgSt.add {M : List Nat} {S : World → Prop} (h : SgSt w0 w L R F v s) (hs : Stable M S) (hl : ∀ b, b ∈ M → b < w.heap.size) (hr : S w) (ha : ∀ b, b ∈ M → b ∉ F) : SgSt w0 w (M ++ L) (fun u => S u ∧ R u) F v s :=
  ⟨h.lv, stable_and hs h.st, fun b hm => (List.mem_append.1 hm).elim (hl b) (h.lt b), ⟨hr, h.r⟩, fun b hm => (List.mem_append.1 hm).elim (ha b) (h.ap b)⟩
theorem SgSt.fresh {S : World → Prop} (h : SgSt w0 w L R F v s) (hb : Below w.heap.size w w') (hs : Stable [w.heap.size] S) (hr : S w') (hl : w.heap.size < w'.heap.size) : SgSt w0 w' ([w.heap.size] ++ L) (fun u => S u ∧ R u) F v s :=
  (h.keep hb).add hs (fun b hm => by rw [List.mem_singleton.1 hm]; exact hl) hr (fun b hm hF => by
    rw [List.mem_singleton.1 hm] at hF
    exact Nat.lt_irrefl _ (h.lv.ld.lt _ hF))
theorem SgSt.res (h : SgSt w0 w L R F v s) {c : Int} {f : Nat} (hz : RsAt w' w.heap.size c f ∧ One w.heap.size (w.alloc (.cells #[.int .i64 0, .float .f64 0] 40)) w') : SgSt w0 w' ([w.heap.size] ++ L) (fun u => RsAt u w.heap.size c f ∧ R u) F v s :=
  h.fresh (hz.2.below ((Below.refl w.heap.size w).alloc (Nat.le_refl _) _) (Nat.le_refl _)) (stable_rs _ c f) hz.1 (lt_of_blk hz.1)
theorem SgSt.req (h : SgSt w0 w L R F v s) {q : Rq} (hz : RqAt w' w.heap.size q ∧ One w.heap.size (w.alloc (.cells #[.int .i64 0, .int .i64 0, .int .i64 0, .string ⟨#[]⟩, .float .f64 0, .int .i64 0] 36)) w') : SgSt w0 w' ([w.heap.size] ++ L) (fun u => RqAt u w.heap.size q ∧ R u) F v s :=
  h.fresh (hz.2.below ((Below.refl w.heap.size w).alloc (Nat.le_refl _) _) (Nat.le_refl _)) (stable_rq _ q) hz.1 (lt_of_blk hz.1)
/-- A copy stands beside. -/
theorem SgSt.copy {F2 : List Nat} {v2 : Value} {s2 : Ls} (h : SgSt w0 w L R F v s) (h2 : LdAt F2 w' v2 s2) (hn : ∀ b, b ∈ F2 → w.heap.size ≤ b) (hb : Below w.heap.size w w') : SgSt w0 w' (F2 ++ L) (fun u => LdAt F2 u v2 s2 ∧ R u) F v s :=
  (h.keep hb).add (stable_ld F2 v2 s2) h2.lt h2 (fun b hm hF => Nat.lt_irrefl _ (Nat.lt_of_lt_of_le (h.lv.ld.lt _ hF) (hn b hm)))
end
theorem sameS_refl (c : Int) (f : Nat) : sameS c f c f = true := by simp [sameS]
/-- A right request a second time. -/
theorem do_right {s : Ls} {q : Rq} (hr : rightB q = true) (hf : fullS s = false) : doE s q = 0 ∧ doS s q = ansS (moreS s) q ∧ doC s q = ansC s q ∧ doF s q = ansF s q := by
  have hN := right_null hr
  have h0 : doE s q = 0 := by simp [doE, fitR, hr, hf]
  refine ⟨h0, ?_, ?_, ?_⟩
  · rw [doS, if_pos h0, hN]; rfl
  · rw [doC, if_pos h0, hN]; rfl
  · rw [doF, if_pos h0, hN]; rfl
theorem do_full {s : Ls} {q : Rq} (hr : rightB q = true) (hf : fullS s = true) : doE s q = 18 ∧ doS s q = s := by
  have h0 : doE s q = 18 := by simp [doE, fitR, hr, hf]
  exact ⟨h0, by rw [doS, h0]; rfl⟩
theorem ans_again {s : Ls} (h : LOk s) {q : Rq} (hr : rightB q = true) :
    (q.st ≤ (((ansS s q).at (clN q)).1 : Int)) ∧ ansC (ansS s q) q = ansC s q ∧ ansF (ansS s q) q = ansF s q ∧
    (ansC s q = 7 ∨ ((((ansS s q).at (clN q)).1 : Int) = q.st ∧ ((ansS s q).at (clN q)).2.1 = ansC s q ∧ ((ansS s q).at (clN q)).2.2 = ansF s q)) := by
  have hst : 1 ≤ q.st := (right_fields hr).2.1.1
  have hc := (cl_lt hr).1
  by_cases h1 : q.st ≤ ((s.at (clN q)).1 : Int)
  · have e1 : ansS s q = s := by rw [ansS, if_pos h1]
    rw [e1]
    refine ⟨h1, rfl, rfl, ?_⟩
    by_cases h2 : q.st < ((s.at (clN q)).1 : Int)
    · exact .inl (by rw [ansC, if_pos h2])
    · have h3 : q.st = ((s.at (clN q)).1 : Int) := by omega
      exact .inr ⟨h3.symm, by rw [ansC, if_neg h2, if_pos h3], by rw [ansF, if_neg h2, if_pos h3]⟩
  · have e1 : (ansS s q).at (clN q) = (q.st.toNat, effC s q, effF s q) := by
      rw [ansS, if_neg h1]
      show (s.lst.set (clN q) (q.st.toNat, effC s q, effF s q)).getD (clN q) (0, 0, 0) = _
      rw [List.getD_eq_getElem?_getD, List.getElem?_set_self (by rw [h.eight]; exact hc)]
      rfl
    have e2 : ((q.st.toNat : Nat) : Int) = q.st := by omega
    have n1 : ¬ q.st < ((s.at (clN q)).1 : Int) := by omega
    have n2 : ¬ q.st = ((s.at (clN q)).1 : Int) := by omega
    have c1 : ansC s q = effC s q := by rw [ansC, if_neg n1, if_neg n2]
    have c2 : ansF s q = effF s q := by rw [ansF, if_neg n1, if_neg n2]
    have d1 : ansC (ansS s q) q = effC s q := by rw [ansC, e1]; simp [e2]
    have d2 : ansF (ansS s q) q = effF s q := by rw [ansF, e1]; simp [e2]
    rw [d1, d2, c1, c2, e1]
    exact ⟨by show q.st ≤ ((q.st.toNat : Nat) : Int); omega, rfl, rfl, .inr ⟨e2, rfl, rfl⟩⟩
theorem more_C (s : Ls) (q : Rq) : ansC (moreS s) q = ansC s q ∧ ansF (moreS s) q = ansF s q := ⟨rfl, rfl⟩
theorem do_again {s : Ls} (h : LOk s) {q : Rq} (hr : rightB q = true) (hf : fullS s = false) (hf2 : fullS (doS s q) = false) :
    doE (doS s q) q = 0 ∧ doS (doS s q) q = moreS (doS s q) ∧ doC (doS s q) q = doC s q ∧ doF (doS s q) q = doF s q ∧
    (doC s q = 7 ∨ ((((doS s q).at (clN q)).1 : Int) = q.st ∧ ((doS s q).at (clN q)).2.1 = doC s q ∧ ((doS s q).at (clN q)).2.2 = doF s q)) := by
  obtain ⟨a1, a2, a3, a4⟩ := do_right hr hf
  obtain ⟨b1, b2, b3, b4⟩ := do_right hr hf2
  rw [a3, a4, b3, b4, b2, b1, a2]
  obtain ⟨c1, c2, c3, c4⟩ := ans_again (more_ok h hf) hr
  obtain ⟨m1, m2⟩ := more_C s q
  rw [← m1, ← m2]
  exact ⟨rfl, by rw [ansS, if_pos (by rw [more_at]; exact c1)], c2, c3, c4⟩
end Go.Proofs.Ytpeagpeifmimlaa
