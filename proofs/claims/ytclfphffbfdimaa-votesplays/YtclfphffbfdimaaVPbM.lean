/- The document's tally in memory; New. -/
import Derived.Test.YtclfphffbfdimaaVPaM
import Derived.Test.YtclfphffbfdimaaKh1
import Derived.Test.YtclfphffbfdimaaLiBM
namespace Go.Proofs.Ytclfphffbfdimaa
open Go.RowKit

/-- A vote of the document's, and where its lists lie. -/
abbrev RtM := Rv × (Option Addr × Nat) × (Option Addr × Nat)
def rvC (x : RtM) : List Value := [.int .i64 x.1.1, .string x.1.2.1, .slice x.2.1.1 x.1.2.2.1.length x.2.1.2, .slice x.2.2.1 x.1.2.2.2.length x.2.2.2]
def rtC (xs : List RtM) : List Value := xs.flatMap rvC
theorem rtC_cons (x : RtM) (xs : List RtM) : rtC (x :: xs) = .int .i64 x.1.1 :: .string x.1.2.1 :: .slice x.2.1.1 x.1.2.2.1.length x.2.1.2 :: .slice x.2.2.1 x.1.2.2.2.length x.2.2.2 :: rtC xs := rfl
theorem rtC_app (a b : List RtM) : rtC (a ++ b) = rtC a ++ rtC b := by rw [rtC, List.flatMap_append]; rfl
theorem rtC_at : ∀ (xs : List RtM) (i : Nat) (x : RtM), xs[i]? = some x → (rtC xs)[i * 4]? = some (.int .i64 x.1.1) ∧ (rtC xs)[i * 4 + 1]? = some (.string x.1.2.1) ∧ (rtC xs)[i * 4 + 2]? = some (.slice x.2.1.1 x.1.2.2.1.length x.2.1.2) ∧ (rtC xs)[i * 4 + 3]? = some (.slice x.2.2.1 x.1.2.2.2.length x.2.2.2)
  | [], _, _, h => by simp at h
  | y :: xs, 0, x, h => by
    obtain rfl : y = x := by simpa using h
    exact ⟨rfl, rfl, rfl, rfl⟩
  | y :: xs, i + 1, x, h => by
    obtain ⟨h1, h2, h3, h4⟩ := rtC_at xs i x (by simpa using h)
    rw [rtC_cons, show (i + 1) * 4 = i * 4 + 1 + 1 + 1 + 1 by omega, show i * 4 + 1 + 1 + 1 + 1 + 1 = (i * 4 + 1) + 1 + 1 + 1 + 1 by omega, show i * 4 + 1 + 1 + 1 + 1 + 2 = (i * 4 + 2) + 1 + 1 + 1 + 1 by omega, show i * 4 + 1 + 1 + 1 + 1 + 3 = (i * 4 + 3) + 1 + 1 + 1 + 1 by omega]
    simp only [List.getElem?_cons_succ]
    exact ⟨h1, h2, h3, h4⟩
/-- The document's tally at block g: R the blocks of its members and of its votes' lists; y the row of its votes. -/
structure DtA (R : Nat → Prop) (w : World) (g : Nat) (am : Option Addr) (cm : Nat) (y : Value) (ep : Int) (l : List Int) (xs : List RtM) : Prop where
  blk : w.heap[g]? = some (.cells #[.int .i64 ep, .slice am l.length cm, y] 45 (0, 0))
  im : IntsIn w am l
  imR : ∀ x, am = some x → R x.block
  row : w.ownsRow 0 85 4 y xs.length (rtC xs)
  rg : ∀ k, y.ownBlock = some k → k ≠ g ∧ ¬ R k
  gR : ¬ R g
  it : ∀ x ∈ xs, (IntsIn w x.2.1.1 x.1.2.2.1 ∧ PairsIn w x.2.2.1 x.1.2.2.2) ∧ (∀ z, x.2.1.1 = some z → R z.block) ∧ (∀ z, x.2.2.1 = some z → R z.block)
  Rlt : ∀ k, R k → k < w.heap.size
def fpD (R : Nat → Prop) (g : Nat) (y : Value) (k : Nat) : Prop := k = g ∨ y.ownBlock = some k ∨ R k
theorem DtA.lt {R : Nat → Prop} {w : World} {g : Nat} {am : Option Addr} {cm : Nat} {y : Value} {ep : Int} {l : List Int} {xs : List RtM} (h : DtA R w g am cm y ep l xs) : ∀ k, fpD R g y k → k < w.heap.size := fun k hk => by
  rcases hk with rfl | hk | hk
  · exact lt_of_blk h.blk
  · exact (h.row.lt k hk).2
  · exact h.Rlt k hk
theorem DtA.stay {R : Nat → Prop} {w w' : World} {g : Nat} {am : Option Addr} {cm : Nat} {y : Value} {ep : Int} {l : List Int} {xs : List RtM} (h : DtA R w g am cm y ep l xs) (hs : w.heap.size ≤ w'.heap.size) (hb : ∀ k, fpD R g y k → w'.heap[k]? = w.heap[k]?) : DtA R w' g am cm y ep l xs := by
  refine ⟨(hb g (.inl rfl)).trans h.blk, ints_stayV h.im hs (fun x hx => hb _ (.inr (.inr (h.imR x hx)))), h.imR, ⟨h.row.1, ?_⟩, h.rg, h.gR, fun x hx => ⟨⟨ints_stayV (h.it x hx).1.1 hs (fun z hz => hb _ (.inr (.inr ((h.it x hx).2.1 z hz)))), pairs_stayV (h.it x hx).1.2 hs (fun z hz => hb _ (.inr (.inr ((h.it x hx).2.2 z hz))))⟩, (h.it x hx).2⟩, fun k hk => Nat.lt_of_lt_of_le (h.Rlt k hk) hs⟩
  rcases h.row.2 with hn | ⟨k, cap, cur, hv, hB, hh, hr⟩
  · exact .inl hn
  · exact .inr ⟨k, cap, cur, hv, hB, (hb k (.inr (.inl (by rw [hv]; rfl)))).trans hh, hr⟩
/-- The document's tally, its votes as data; D its blocks. -/
def DtAt (D : Nat → Prop) (w : World) (v : Value) (ep : Int) (l : List Int) (rs : List Rv) : Prop := ∃ R g am cm y xs, v = .pointer (some ⟨g, 0, none⟩) ∧ rs = xs.map (·.1) ∧ DtA R w g am cm y ep l xs ∧ ∀ k, D k ↔ fpD R g y k
theorem DtAt.lt {D : Nat → Prop} {w : World} {v : Value} {ep : Int} {l : List Int} {rs : List Rv} (h : DtAt D w v ep l rs) : ∀ k, D k → k < w.heap.size := by
  obtain ⟨R, g, am, cm, y, xs, _, _, h1, h2⟩ := h
  exact fun k hk => h1.lt k ((h2 k).1 hk)
theorem DtAt.stay {D : Nat → Prop} {w w' : World} {v : Value} {ep : Int} {l : List Int} {rs : List Rv} (h : DtAt D w v ep l rs) (hs : w.heap.size ≤ w'.heap.size) (hb : ∀ k, D k → w'.heap[k]? = w.heap[k]?) : DtAt D w' v ep l rs := by
  obtain ⟨R, g, am, cm, y, xs, hv, hr, h1, h2⟩ := h
  exact ⟨R, g, am, cm, y, xs, hv, hr, h1.stay hs (fun k hk => hb k ((h2 k).2 hk)), h2⟩
theorem DtAt.keep {D : Nat → Prop} {w w' : World} {v : Value} {ep : Int} {l : List Int} {rs : List Rv} (h : DtAt D w v ep l rs) (hb : Below w.heap.size w w') : DtAt D w' v ep l rs := h.stay hb.size (fun k hk => hb.block k (h.lt k hk))
set_option maxRecDepth 100000 in
set_option maxHeartbeats 3200000 in
theorem wnewT_no (ep : Int) (a : Option Addr) (n cap : Nat) (l : List Int) (hn : l.length = n) (hm : n ≤ maxLen) (w : World) (hI : IntsIn w a l) (hr : rightC ep l = false) :
    Calls Try.prog 13 #[.agg #[.int .i64 ep, .slice a n cap]] w fun e w' => e = .returned (.tuple #[.pointer none, .int .i64 1]) ∧ Below w.heap.size w w' := by
  have HI := hid hI
  have HR : Hid (∀ u : World, IntsIn u a l → Calls Try.prog 32 #[.agg #[.int .i64 ep, .slice a n cap]] u fun e w' => e = .returned (.bool false) ∧ Below u.heap.size u w') := hid (fun u hu => by rw [← hr]; exact vright_any ep a n cap l hn hm u hu)
  clear hI hr
  go_enter Try.func13, Try.ntmps13
  go_wp2_with (go_at_call 32; refine (HR.out _ (by exact HI.out.alloc _)).mono ?_; rintro e w1 ⟨rfl, hb1⟩; have H1 := hid (((Below.refl w.heap.size w).alloc (Nat.le_refl _) _).trans (hb1.mono (by simp))); clear hb1)
  go_ret2
  exact ⟨rfl, H1.out⟩
set_option maxRecDepth 100000 in
set_option maxHeartbeats 6400000 in
theorem wnewT_yes (ep : Int) (a : Option Addr) (n cap : Nat) (l : List Int) (hn : l.length = n) (w : World) (hI : IntsIn w a l) (hr : rightC ep l = true) :
    Calls Try.prog 13 #[.agg #[.int .i64 ep, .slice a n cap]] w fun e w' => ∃ g D, e = .returned (.tuple #[.pointer (some ⟨g, 0, none⟩), .int .i64 0]) ∧ DtAt D w' (.pointer (some ⟨g, 0, none⟩)) ep l [] ∧ (∀ k, D k → w.heap.size ≤ k) ∧ Below w.heap.size w w' := by
  have hml := mem_len (rightC_ep hr).2
  have HI := hid hI
  have HL := hid (And.intro hn hml)
  have HR : Hid (∀ u : World, IntsIn u a l → Calls Try.prog 32 #[.agg #[.int .i64 ep, .slice a n cap]] u fun e w' => e = .returned (.bool true) ∧ Below u.heap.size u w') := hid (fun u hu => by rw [← hr]; exact vright_any ep a n cap l hn (by unfold maxLen; omega) u hu)
  clear hI hr hml hn
  go_enter Try.func13, Try.ntmps13
  go_wp2_with (go_at_call 32; refine (HR.out _ (by exact HI.out.alloc _)).mono ?_; rintro e w1 ⟨rfl, hb1⟩; have H1 : Hid (CvAt w1 w.heap.size ep (.slice a n cap) ∧ Below w.heap.size w w1) := hid ⟨(hb1.block _ (by simp)).trans (heap_alloc_last w _), ((Below.refl w.heap.size w).alloc (Nat.le_refl _) _).trans (hb1.mono (by simp))⟩; clear hb1)
  have HS : Hid (CvAt w1.drew w.heap.size ep (.slice a n cap)) := hid H1.out.1
  refine wp_region_G (S := fun ww => CvAt ww w.heap.size ep (.slice a n cap)) (ex := []) (by kernel_rfl) ?_
  try (change wpAnyG _ _ _ _ _ _ _ _ _ (World.drew _))
  refine wpAnyG_take (i := 0) (v := ?v1) rfl (by kernel_rfl) (fun _ _ _ h => h) (Or.inl ⟨by rfl, ?hy1⟩) HS.out ?rest1
  case hy1 => (intro ww _; go_simp; try with_reducible rfl)
  go_simp
  refine wpAnyG_take (i := 1) (v := ?v2) rfl (by kernel_rfl) (fun _ _ _ h => h) (Or.inl ⟨by rfl, ?hy2⟩) HS.out ?rest2
  case hy2 => (intro ww hS; obtain ⟨y0, y1⟩ := hS.cells; go_simp; try with_reducible rfl)
  go_simp
  refine wpAnyG_take (i := 2) (v := ?v3) rfl (by kernel_rfl) (fun _ _ _ h => h) (Or.inl ⟨by rfl, ?hy3⟩) HS.out ?rest3
  case hy3 => (intro ww _; go_simp; try with_reducible rfl)
  go_simp
  refine wpAnyG_take (i := 3) (v := ?v4) rfl (by kernel_rfl) (fun _ _ _ h => h) (Or.inl ⟨by rfl, ?hy4⟩) HS.out ?rest4
  case hy4 => (intro ww hS; obtain ⟨y0, y1⟩ := hS.cells; go_simp; try with_reducible rfl)
  go_simp
  refine wpAnyG_all (rs := [4]) (by kernel_rfl) (by simp) ?_
  intro i hi
  obtain rfl := List.mem_singleton.1 hi
  clear hi
  refine wpOp_v rfl (by rfl) (fun K hK => ?_)
  refine owp_ownI _ _ rfl rfl a n cap l rfl HL.out.1 (HI.out.keep H1.out.2.drew (Nat.le_refl _)) (by have := HL.out; omega) (fun v4 w4 h4 => ?_)
  have hb4 := h4.out.bel
  obtain ⟨ad4, cp4, rfl, hi4⟩ := h4.out.new
  have H4 : Hid (CvAt w4 w.heap.size ep (.slice a n cap) ∧ NewI w1.heap.size w4 ad4 l ∧ Below w.heap.size w w4) := hid ⟨HS.out.keep hb4, hi4, H1.out.2.drew.trans (hb4.mono H1.out.2.size)⟩
  clear h4 hb4 hi4
  go_simp
  refine hK _ _ ⟨fun _ => H4.out.1, ?_⟩
  clear hK K
  go_simp
  refine wpAnyG_take (i := 5) (v := ?v5) rfl (by kernel_rfl) (fun _ _ _ h => h) (Or.inl ⟨by rfl, ?hy5⟩) H4.out.1 ?rest5
  case hy5 => (intro ww _; go_simp; try with_reducible rfl)
  go_simp
  refine wpAnyG_take (i := 6) (v := ?v6) rfl (by kernel_rfl) (fun _ _ _ h => h) (Or.inl ⟨by rfl, ?hy6⟩) H4.out.1 ?rest6
  case hy6 => (intro ww _; go_simp; try with_reducible rfl)
  go_simp
  refine wpAnyG_all (rs := [7]) (by kernel_rfl) (by simp) ?_
  intro i hi
  obtain rfl := List.mem_singleton.1 hi
  clear hi
  refine wpOp_v rfl (by rfl) (fun K hK => ?_)
  go_simp
  have H5 : Hid (CvAt (w4.alloc (.cells #[.int .i64 ep, .slice ad4 l.length cp4, .slice none 0 0] 45)) w.heap.size ep (.slice a n cap)) := hid (H4.out.1.keep ((Below.refl _ _).alloc (Nat.le_refl _) _))
  refine hK _ _ ⟨fun _ => H5.out, ?_⟩
  clear hK K
  go_simp
  refine wpAnyG_all (rs := [8]) (by kernel_rfl) (by simp) ?_
  intro i hi
  obtain rfl := List.mem_singleton.1 hi
  clear hi
  refine wpOp_v rfl (by rfl) (fun K hK => ?_)
  go_simp
  refine hK _ _ ⟨fun _ => H5.out, ?_⟩
  clear hK K
  go_simp
  refine wpAnyG_all (rs := [9]) (by kernel_rfl) (by simp) ?_
  intro i hi
  obtain rfl := List.mem_singleton.1 hi
  clear hi
  refine wpOp_v rfl (by rfl) (fun K hK => ?_)
  go_simp
  refine hK _ _ ⟨fun _ => H5.out, ?_⟩
  clear hK K
  go_simp
  refine wpAnyG_done (by kernel_rfl) ?_ _
  go_simp
  go_wp2
  go_ret2
  have hba := (Below.refl w4.heap.size w4).alloc (Nat.le_refl _) (.cells #[.int .i64 ep, .slice ad4 l.length cp4, .slice none 0 0] 45)
  have hs := H1.out.2.size
  refine ⟨w4.heap.size, fpD (fun k => ∃ x, ad4 = some x ∧ k = x.block) w4.heap.size (.slice none 0 0), rfl, ⟨_, _, ad4, cp4, _, [], rfl, rfl, ⟨heap_alloc_last w4 _, (H4.out.2.1.keep hba).ints, fun x hx => ⟨x, hx, rfl⟩, World.ownsRow_nil _ _ _ _, (fun k hk => by cases hk), ?_, (fun x hx => by simp at hx), ?_⟩, fun k => Iff.rfl⟩, ?_, (H4.out.2.2.alloc H4.out.2.2.size _)⟩
  · rintro ⟨x, hx, e⟩
    have := (H4.out.2.1.far x hx).2.lt
    omega
  · rintro k ⟨x, hx, rfl⟩
    have := (H4.out.2.1.far x hx).2.lt
    simp
    omega
  · rintro k (rfl | hk | ⟨x, hx, rfl⟩)
    · exact H4.out.2.2.size
    · cases hk
    · have := (H4.out.2.1.far x hx).1
      omega
end Go.Proofs.Ytclfphffbfdimaa
