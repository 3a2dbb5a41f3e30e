/- The contracts of the document's writer: texts. -/
import Derived.Test.YtecidbdbdnnglaaGreatMwCM
import Derived.Test.YtecidbdbdnnglaaGreatPkBM
namespace Go.Proofs.YtecidbdbdnnglaaGreat
open Go.RowKit

set_option maxRecDepth 100000 in
set_option maxHeartbeats 1600000 in
theorem mtext_in (c : Nat) (v : Value) (lim : Int) (l : List UInt8) (er : Int) (s : ByteArray) (w : World) (h : MwAt w c v lim l er)
    (h0 : 0 ≤ lim) (h1 : lim ≤ 9223372036854775807) (hl : l.length + (s.size + 10) ≤ 140737488355328) (hs : s.size ≤ 65535) (E : Int) (hE : adm lim l.length er true (2 + s.size : Nat) = E) (L : List UInt8) (hL : (if E = 0 then l ++ (be 2 s.size ++ s.data.toList) else l) = L) :
    Calls Tryz.prog 75 #[.pointer (some ⟨c, 0, none⟩), .string s] w fun e w' => e = .returned (.tuple #[]) ∧ ∃ v', MwAt w' c v' lim L E ∧ Kept c v.ownBlock w w' ∧ Moved w v v' := by
  obtain ⟨i0, hi0, hz0, hz1, hz2⟩ := info_parts Tryz.info5
  have HH := hid h
  have HC := hid (big_any s.size 2 w (by omega) (by omega))
  have HL := hid hL
  have HE := hid hE
  have hsi : (s.size : Int) ≤ 65535 := by omega
  have hd : s.data.toList.length = s.size := by rw [Array.length_toList]; rfl
  have HD := hid hd
  clear h hL hE hd hs
  go_enter Tryz.func75, Tryz.ntmps75
  go_wp2_with fail
  refine HC.out.mono ?_
  rintro e w1 ⟨rfl, hb1, hbel⟩
  have ho : w1.ownsRow w.heap.size 5 1 (.slice (some ⟨w.heap.size, 0, none⟩) 2 2) 2 (bC (be 2 s.size)) :=
    ⟨by rw [bC_len, be_len], .inr ⟨w.heap.size, 2, _, rfl, Nat.le_refl _, hb1, Nat.le_refl _, by decide, by simp [bC_len, be_len], by rw [List.toList_toArray, List.take_of_length_le (by rw [bC_len, be_len]; decide)]⟩⟩
  have HB := hid hbel
  have hz := hbel.size
  clear hb1 hbel
  go_wp2_with (at_builtin; refine wpList_append_str _ rfl _ _ rfl w.heap.size i0 hi0 hz0 hz1 hz2 _ 2 (bC (be 2 s.size)) rfl ho s rfl (by omega) hz ?_)
  intro v2 w2 hown2 hgrow hat
  obtain ⟨g, cap, hv2, hg2, -⟩ := hown2.form (by omega)
  have hbel2 : Below w.heap.size w w2 := HB.out.grown hgrow hz (fun k hk => by simp [Value.ownBlock] at hk; omega)
  have hsrc : ∀ j u, (bC (be 2 s.size ++ s.data.toList))[j]? = some u → w2.cell? ⟨g, j, none⟩ = some u := by
    intro j u hj
    rw [bC_app] at hj
    have := hown2.cells (g := g) (by rw [hv2]; rfl) j u hj
    rwa [Addr.add_lit, Nat.zero_add] at this
  have HP := hid (mput_len c v lim l er g cap (be 2 s.size ++ s.data.toList) (2 + s.size) (by rw [List.length_append, be_len, HD.out]) w2 (HH.out.above hbel2) h0 h1 (by omega) hsrc)
  rw [HE.out, HL.out] at HP
  have HK := hid (show Kept c v.ownBlock w w2 from ⟨hbel2.os, hbel2.tape, hbel2.output, hbel2.size, fun j hj _ _ => hbel2.block j hj⟩)
  rw [hv2]
  clear hown2 hgrow hat hbel2 hsrc hv2 ho
  go_wp2_with fail
  refine HP.out.mono ?_
  rintro e w3 ⟨rfl, v3, hx3, hk3, hm3⟩
  have H3 := hid (And.intro hx3 (And.intro (HK.out.trans hk3 (.inl rfl)) ((Moved.refl w v).trans hm3 HK.out.size)))
  clear hx3 hk3 hm3
  go_wp2
  go_end0
  exact ⟨rfl, v3, H3.out⟩

set_option maxHeartbeats 800000 in
theorem mtext_out (c : Nat) (v : Value) (lim : Int) (l : List UInt8) (er : Int) (s : ByteArray) (w : World) (h : MwAt w c v lim l er) (hs : (65535 : Int) < s.size) (E : Int) (hE : adm lim l.length er false (2 + s.size) = E) :
    Calls Tryz.prog 75 #[.pointer (some ⟨c, 0, none⟩), .string s] w fun e w' => e = .returned (.tuple #[]) ∧ ∃ v', MwAt w' c v' lim l E ∧ Kept c v.ownBlock w w' ∧ Moved w v v' := by
  have HC := hid (mput_bad c v lim l er (2 + s.size) w h)
  rw [hE] at HC
  clear h hE
  go_enter Tryz.func75, Tryz.ntmps75
  go_wp2_with fail
  refine HC.out.mono ?_
  rintro e w1 ⟨rfl, hx1, hk1⟩
  have H1 := hid (And.intro hx1 (kept_none (r := v.ownBlock) hk1))
  clear hx1 hk1
  go_wp2
  first | go_end0 | refine bodyPost_ret (results_none rfl _ _ _) rfl ?_
  exact ⟨rfl, v, H1.out.1, H1.out.2, Moved.refl _ _⟩

theorem mtext_w (c : Nat) (v : Value) (lim : Int) (l : List UInt8) (er : Int) (s : ByteArray) (w : World) (h : MwAt w c v lim l er)
    (h0 : 0 ≤ lim) (h1 : lim ≤ 9223372036854775807) (hl : l.length + (s.size + 10) ≤ 140737488355328) :
    Calls Tryz.prog 75 #[.pointer (some ⟨c, 0, none⟩), .string s] w fun e w' => e = .returned (.tuple #[]) ∧ ∃ v', MwAt w' c v' lim (xL lim l er s) (xE lim l er s) ∧ Kept c v.ownBlock w w' ∧ Moved w v v' := by
  by_cases hs : s.size ≤ 65535
  · have e : xE lim l er s = adm lim l.length er true (2 + s.size : Nat) := by simp [xE, hs]
    exact mtext_in c v lim l er s w h h0 h1 hl hs _ e.symm _ rfl
  · have e : xE lim l er s = adm lim l.length er false (2 + s.size) := by simp [xE, hs]
    have hd : ¬ xE lim l er s = 0 := by rw [e]; unfold adm; split <;> simp_all
    rw [xL, if_neg hd]
    exact mtext_out c v lim l er s w h (by omega) _ e.symm
end Go.Proofs.YtecidbdbdnnglaaGreat
