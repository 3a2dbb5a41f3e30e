/- The document's Noted. -/
import Derived.Test.YtgnapfgiefdlaaaTeF
import Derived.Maps.AppendAt
namespace Go.Proofs.Ytgnapfgiefdlaaa
open Go.RowKit

/-- A list with those that don't stand in it. -/
def noted (l : List (Int × ByteArray)) : List (Int × ByteArray) → List (Int × ByteArray)
  | [] => l
  | s :: ss => noted (if stands l s = true then l else l ++ [s]) ss
theorem noted_app (l a b : List (Int × ByteArray)) : noted l (a ++ b) = noted (noted l a) b := by
  induction a generalizing l with
  | nil => rfl
  | cons s a ih => exact ih _
theorem noted_yes {l : List (Int × ByteArray)} {s : Int × ByteArray} (h : stands l s = true) : noted l [s] = l := by simp [noted, h]
theorem noted_no {l : List (Int × ByteArray)} {s : Int × ByteArray} (h : stands l s = false) : noted l [s] = l ++ [s] := by simp [noted, h]
theorem noted_len (ss : List (Int × ByteArray)) : ∀ l, (noted l ss).length ≤ l.length + ss.length := by
  induction ss with
  | nil => intro l; exact Nat.le_refl _
  | cons s ss ih =>
    intro l
    refine Nat.le_trans (ih _) ?_
    split <;> simp <;> omega
theorem noted_mem (ss : List (Int × ByteArray)) (z : Int × ByteArray) : ∀ l, z ∈ noted l ss ↔ z ∈ l ∨ z ∈ ss := by
  induction ss with
  | nil => intro l; simp [noted]
  | cons s ss ih =>
    intro l
    rw [noted, ih, List.mem_cons]
    by_cases h : stands l s = true
    · rw [if_pos h]
      have := (stands_iff _ _).1 h
      constructor
      · rintro (h | h)
        · exact .inl h
        · exact .inr (.inr h)
      · rintro (h | rfl | h)
        · exact .inl h
        · exact .inl this
        · exact .inr h
    · rw [if_neg h, List.mem_append, List.mem_singleton]
      constructor
      · rintro ((h | h) | h)
        · exact .inl h
        · exact .inr (.inl h)
        · exact .inr (.inr h)
      · rintro (h | h | h)
        · exact .inl (.inl h)
        · exact .inl (.inr h)
        · exact .inr h
theorem noted_nodup (ss : List (Int × ByteArray)) : ∀ l, l.Nodup → (noted l ss).Nodup := by
  induction ss with
  | nil => intro l h; exact h
  | cons s ss ih =>
    intro l h
    rw [noted]
    split
    · exact ih _ h
    · next hs =>
      refine ih _ (List.nodup_append.2 ⟨h, by simp, fun x hx y hy e => ?_⟩)
      rw [List.mem_singleton.1 hy] at e
      rw [e] at hx
      exact hs ((stands_iff _ _).2 hx)
/-- The list as it grows: all other blocks stay. -/
structure NoSt (B : Nat) (w0 w : World) (v0 v : Value) (L : List (Int × ByteArray)) : Prop where
  own : w.ownsRow B 34 2 v L.length (pC L)
  grown : w0.grownBy w v0.ownBlock
  at_ : v.ownBlock = v0.ownBlock ∨ ∃ k, v.ownBlock = some k ∧ w0.heap.size ≤ k
theorem NoSt.keep {B : Nat} {w0 w w' : World} {v0 v : Value} {L : List (Int × ByteArray)} (h : NoSt B w0 w v0 v L) (hb : Below w.heap.size w w') : NoSt B w0 w' v0 v L :=
  ⟨ownsRow_keep h.own hb, ⟨hb.os.trans h.grown.os, hb.tape.trans h.grown.tape, hb.output.trans h.grown.output, Nat.le_trans h.grown.size hb.size, fun k hk hne => (hb.block k (Nat.lt_of_lt_of_le hk h.grown.size)).trans (h.grown.block k hk hne)⟩, h.at_⟩
theorem NoSt.pairs {B : Nat} {w0 w : World} {v0 v : Value} {L : List (Int × ByteArray)} (h : NoSt B w0 w v0 v L) : ∃ ad cap, v = .slice ad L.length cap ∧ PairsIn w ad L := own_pairsT h.own
theorem NoSt.append {B : Nat} {w0 w w' : World} {v0 v v' : Value} {L : List (Int × ByteArray)} {s : Int × ByteArray} (h : NoSt B w0 w v0 v L) (hown : w'.ownsRow B 34 2 v' (L.length + 1) (pC L ++ pC [s])) (hg : w.grownBy w' v.ownBlock) (ha : v'.ownBlock = v.ownBlock ∨ v'.ownBlock = some w.heap.size) : NoSt B w0 w' v0 v' (L ++ [s]) := by
  refine ⟨by rw [List.length_append, pC_app]; exact hown, ⟨hg.os.trans h.grown.os, hg.tape.trans h.grown.tape, hg.output.trans h.grown.output, Nat.le_trans h.grown.size hg.size, fun k hk hne => (hg.block k (Nat.lt_of_lt_of_le hk h.grown.size) ?_).trans (h.grown.block k hk hne)⟩, ?_⟩
  · intro e
    rcases h.at_ with h1 | ⟨j, h1, h2⟩
    · exact hne (e.trans h1)
    · rw [h1] at e
      cases e
      omega
  · rcases ha with e | e
    · rw [e]; exact h.at_
    · exact .inr ⟨_, e, h.grown.size⟩
theorem pairs_but {w w' : World} {b : Option Addr} {ss : List (Int × ByteArray)} {row : Option Nat} (hP : PairsIn w b ss) (hne : ∀ ad, b = some ad → ss ≠ [] → row ≠ some ad.block) (hg : w.grownBy w' row) : PairsIn w' b ss := by
  by_cases h0 : ss = []
  · exact .inl h0
  rcases hP with h | ⟨g, o, rfl, hlt, hc⟩
  · exact .inl h
  · refine .inr ⟨g, o, rfl, Nat.lt_of_lt_of_le hlt hg.size, fun j p hj => ?_⟩
    have hh := hg.block g hlt (fun e => hne _ rfl h0 e.symm)
    have := hc j p hj
    exact ⟨(World.cell?_of_block (a := ⟨g, _, none⟩) hh).trans this.1, (World.cell?_of_block (a := ⟨g, _, none⟩) hh).trans this.2⟩
set_option maxRecDepth 100000 in
set_option maxHeartbeats 3200000 in
theorem wnoted_any (B : Nat) (v : Value) (n : Nat) (l : List (Int × ByteArray)) (hn : l.length = n) (b : Option Addr) (m cp : Nat) (ss : List (Int × ByteArray)) (hsn : ss.length = m) (hm : (n + m) * 24 ≤ 140737488355328) (w : World) (hB : B ≤ w.heap.size) (hO : w.ownsRow B 34 2 v n (pC l)) (hP : PairsIn w b ss) (hne : ∀ ad, b = some ad → ss ≠ [] → v.ownBlock ≠ some ad.block) :
    Calls Try.prog 22 #[v, .slice b m cp] w fun e w' => ∃ v', e = .returned v' ∧ NoSt B w w' v v' (noted l ss) := by
  have hm2 : (m : Int) ≤ 9223372036854775806 := by omega
  have HO : Hid (NoSt B w w v v l) := hid ⟨by rw [hn]; exact hO, ⟨rfl, rfl, rfl, Nat.le_refl _, fun _ _ _ => rfl⟩, .inl rfl⟩
  have HP := hid (And.intro hP (And.intro hne hsn))
  have HM := hid (And.intro hm hn)
  have HB := hid hB
  clear hO hP hne hm hB
  go_enter Try.func22, Try.ntmps22
  go_wp2
  obtain ⟨i0, hi0, hz0, hz1, hz2⟩ := info_parts Try.info34
  go_loopw [0, 5] (fun v1 i wr => ∃ j : Nat, j ≤ m ∧ i = .int .i64 (j : Int) ∧ NoSt B w wr v v1 (noted l (ss.take j)))
    (fun _ i _ => ((m : Int) - intOf i).toNat)
  case atStart => exact ⟨0, by omega, rfl, HO.out⟩
  case round =>
    obtain ⟨j, hj, rfl, hN⟩ := hrel
    have HN := hid hN
    clear hN
    by_cases hjn : j = m
    · have hj1 : ¬ ((j : Int) < (m : Int)) := by omega
      have HE : Hid (ss.take j = ss) := hid (List.take_of_length_le (by rw [HP.out.2.2]; omega))
      clear hj hjn
      go_wp2
      go_ret
      exact ⟨_, rfl, by rw [HE.out] at HN; exact HN.out⟩
    · have hj1 : (j : Int) < (m : Int) := by omega
      have hj0 : (0 : Int) ≤ (j : Int) := Int.natCast_nonneg _
      have hjl : j < ss.length := by rw [HP.out.2.2]; omega
      have htk : ss.take (j + 1) = ss.take j ++ [(idOf ss j, rtOf ss j)] := by rw [List.take_add_one, getP_some hjl]; rfl
      have hap := noted_app l (ss.take j) [(idOf ss j, rtOf ss j)]
      rw [← htk] at hap
      have hln : ((noted l (ss.take j)).length + 1) * 24 ≤ 140737488355328 := by
        have := noted_len (ss.take j) l
        have := HM.out
        rw [List.length_take] at *
        omega
      have hPw := pairs_but HP.out.1 HP.out.2.1 HN.out.grown
      obtain ⟨g1, o1, rfl, hg1, x1, y1⟩ := hPw.at j _ (getP_some hjl)
      obtain ⟨L, eL⟩ : ∃ L, L = noted l (ss.take j) := ⟨_, rfl⟩
      rw [← eL] at HN hap hln
      obtain ⟨x, ex⟩ : ∃ x, x = idOf ss j := ⟨_, rfl⟩
      obtain ⟨y, ey⟩ : ∃ y, y = rtOf ss j := ⟨_, rfl⟩
      rw [← ex, ← ey] at hap
      rw [← ex] at x1
      rw [← ey] at y1
      obtain ⟨ao, co, hu, hq⟩ := HN.out.pairs
      subst hu
      have HS : Hid (∀ u : World, PairsIn u ao L → Calls Try.prog 27 #[.slice ao L.length co, .agg #[.int .i64 x, .string y]] u fun e w' => e = .returned (.bool (stands L (x, y))) ∧ Below u.heap.size u w') := hid (fun u hu => wstands_any ao L.length co L rfl (by unfold maxLen; omega) x y u hu)
      have HQ := hid hq
      have HC := hid (And.intro hg1 (And.intro x1 y1))
      have HJ := hid (And.intro hj hjn)
      have HA := hid hap
      have HL := hid hln
      clear hq hg1 hj hjn hap hln htk hPw eL ex ey hjl
      cases h1 : stands L (x, y) with
      | true =>
        rw [h1] at HS
        have HR : Hid (noted l (ss.take (j + 1)) = L) := hid (by rw [HA.out, noted_yes h1])
        clear h1
        go_wp2_with (go_at_call 27; refine (HS.out _ HQ.out).mono ?_; rintro e w2 ⟨rfl, hb2⟩; have H2 := hid (HN.out.keep hb2); clear hb2)
        go_roundw
        case rel => exact ⟨j + 1, by have := HJ.out; omega, by go_num, by rw [HR.out]; exact H2.out⟩
        case measure => simp [intOf]; omega
      | false =>
        rw [h1] at HS
        have HR : Hid (noted l (ss.take (j + 1)) = L ++ [(x, y)]) := hid (by rw [HA.out, noted_no h1])
        clear h1
        go_wp2_with (first
          | (go_at_call 27; refine (HS.out _ HQ.out).mono ?_; rintro e w2 ⟨rfl, hb2⟩; have H2 := hid (HN.out.keep hb2); have p0 := (hb2.cell (p := ⟨g1, _, none⟩) HC.out.1).trans HC.out.2.1; have p1 := (hb2.cell (p := ⟨g1, _, none⟩) HC.out.1).trans HC.out.2.2; clear hb2)
          | (at_builtin; refine wpList_append_own_at _ rfl _ _ 25 rfl B 34 i0 (.agg #[.int .i64 0, .string ⟨#[]⟩]) 2 24 Try.underlying25 hi0 hz0 hz1 hz2 rfl (by decide) _ L.length _ rfl (by exact H2.out.own.alloc _) ⟨_, 0, none⟩ 1 1 (pC [(x, y)]) rfl rfl (World.news_of_block (t := 34) (fr := (0, 0)) (heap_alloc_last _ _)) (by simp [pC, Value.oneCell']) (by have := HL.out; unfold maxLen; omega) (by have := HL.out; omega) (by have := H2.out.grown.size; have := HB.out; simp; omega) ?_; intro v8 w8 hown8 hgrow8 hnil8 hat8
             have H8 : Hid (NoSt B w w8 v v8 (L ++ [(x, y)])) := hid ((H2.out.keep ((Below.refl _ _).alloc (Nat.le_refl _) _)).append hown8 hgrow8 hat8)
             clear hown8 hgrow8 hnil8 hat8))
        go_roundw
        case rel => exact ⟨j + 1, by have := HJ.out; omega, by go_num, by rw [HR.out]; exact H8.out⟩
        case measure => simp [intOf]; omega
end Go.Proofs.Ytgnapfgiefdlaaa
