/- Regions that draw, walked once in a class of worlds; two rows of one's own; the document's MAC. -/
import Derived.Test.YtnlmjclloaholaaMaF
import Derived.Test.YtnlmjclloaholaaShP
import Derived.BigQuiet
namespace Go.Proofs.Ytnlmjclloaholaa
open Go.RowKit

/-- The worlds that are as W was in all that W has. -/
def Cls (W : World) : Type := { u : World // Below W.heap.size W u }
theorem Cls.ne (W : World) : Nonempty (Cls W) := ⟨⟨W, Below.refl _ _⟩⟩
theorem Cls.of {W : World} {f : FuncId} {args : Array Value} {v : Value} (x : Cls W)
    (h : ∀ u : World, Below W.heap.size W u → Calls Try.prog f args u fun e w' => e = .returned v ∧ Below u.heap.size u w') :
    Calls Try.prog f args x.1 fun e w'' => e = .returned v ∧ ∃ y : Cls W, w'' = y.1 :=
  (h x.1 x.2).mono fun _ w' ⟨he, hb⟩ => ⟨he, ⟨w', x.2.trans (hb.mono x.2.size)⟩, rfl⟩
theorem wp_region_cls {id : Nat} {Q : Exit → Act → World → Prop} {a : Act} (W : World) {l : List Oper} (hm : Try.prog.follows .mixedOrders = true) (hB : Region.lexB .any l.toArray = true)
    (h : wpQuiet Try.prog l.toArray (fun w' => ∃ x : Cls W, w' = x.1) (fun a' => ∀ w', (∃ x : Cls W, w' = x.1) → Q .normal a' w') l a) : (Code.region id l.toArray true).wp Try.prog Q a W :=
  wp_region_quiet (C := fun w' => ∃ x : Cls W, w' = x.1) hm hB ⟨⟨{ W with drawn := W.drawn + 1 }, ⟨rfl, rfl, rfl, Nat.le_refl _, fun _ _ => rfl⟩⟩, rfl⟩ (by simpa using h)

/-- Two rows of one's own, apart. -/
structure Own2 (B : Nat) (w0 w : World) (v1 v2 : Value) (l1 l2 : List UInt8) : Prop where
  one : Owned B w0 w v1 l1
  two : Owned B w0 w v2 l2
  ne : v1.ownBlock = none ∨ v1.ownBlock ≠ v2.ownBlock
theorem Own2.symm {B : Nat} {w0 w : World} {v1 v2 : Value} {l1 l2 : List UInt8} (h : Own2 B w0 w v1 v2 l1 l2) : Own2 B w0 w v2 v1 l2 l1 :=
  ⟨h.two, h.one, by
    cases h2 : v2.ownBlock with
    | none => exact .inl rfl
    | some k =>
      right
      intro e
      rcases h.ne with h1 | h1
      · rw [h1] at e; cases e
      · exact h1 (by rw [← e, h2])⟩
theorem Own2.grow {B : Nat} {w0 w w3 : World} {v1 v2 v3 : Value} {l1 l2 xs : List UInt8} {m : Nat} (o : Obj) (h : Own2 B w0 w v1 v2 l1 l2) (hm : xs.length = m)
    (hown : w3.ownsRow B 5 1 v3 (l1.length + m) (bC l1 ++ bC xs)) (hg : (w.alloc o).grownBy w3 v1.ownBlock) (hb : v3.ownBlock = v1.ownBlock ∨ v3.ownBlock = some (w.alloc o).heap.size) : Own2 B w0 w3 v3 v2 (l1 ++ xs) l2 := by
  have g1 := (h.one.alloc o).grow hm hown hg
  refine ⟨g1, ⟨(h.two.alloc o).own.kept hg ?_, g1.bel, g1.le⟩, ?_⟩
  · cases h2 : v2.ownBlock with
    | none => exact .inl rfl
    | some k =>
      right
      intro e
      rcases h.ne with h1 | h1
      · rw [h1] at e; cases e
      · exact h1 (by rw [← e, h2])
  · rcases hb with hb | hb
    · rw [hb]
      exact h.ne
    · right
      rw [hb]
      intro e
      have := ((h.two.alloc o).own.lt _ e.symm).2
      omega

theorem Owned.keep {B : Nat} {w0 w w' : World} {v : Value} {l : List UInt8} (h : Owned B w0 w v l) (hb : Below w.heap.size w w') : Owned B w0 w' v l := by
  refine ⟨⟨h.own.1, ?_⟩, h.bel.trans (hb.mono h.le), Nat.le_trans h.le hb.size⟩
  rcases h.own.2 with hn | ⟨g, cap, cur, hv, hB, hh, hr⟩
  · exact .inl hn
  · exact .inr ⟨g, cap, cur, hv, hB, (hb.block g (lt_of_blk hh)).trans hh, hr⟩
/-- A digest, as a text. -/
def shaS (z : ByteArray) : ByteArray := ⟨(shaB z.data.toList).toArray⟩
theorem shaS_size (z : ByteArray) : (shaS z).size = 32 := by rw [← data_len, shaS, mk_data, shaB_len]
theorem qsum_s (z : ByteArray) (hz : z.size ≤ 1099511627000) (u : World) : Calls Try.prog 24 #[.string z] u fun e w' => e = .returned (.string (shaS z)) ∧ Below u.heap.size u w' := qsum_any z hz u
theorem fill_get (k : ByteArray) (j : Nat) (h : j < k.size) : (fillB k.data.toList).getD j 0 = k[j] := by
  have h1 : j < k.data.toList.length := h
  rw [fillB, List.getD, List.getElem?_append_left h1, List.getElem?_eq_getElem h1]
  rfl
theorem fill_nought (k : ByteArray) (j : Nat) (h : ¬ j < k.size) : (fillB k.data.toList).getD j 0 = 0 := by
  have h1 : k.data.toList.length ≤ j := by rw [data_len]; omega
  rw [fillB, List.getD, List.getElem?_append_right h1, List.getElem?_replicate]
  split <;> rfl
theorem mask_snoc (m : UInt8) (l : List UInt8) (j : Nat) (h : j < l.length) : maskB m (l.take (j + 1)) = maskB m (l.take j) ++ [l.getD j 0 ^^^ m] := by
  have e : l.getD j 0 = l[j] := by simp [List.getD, h]
  rw [List.take_add_one, List.getElem?_eq_getElem h, maskB, List.map_append, e]
  rfl
theorem mask_le (m : UInt8) (l : List UInt8) (j : Nat) : (maskB m (l.take j)).length ≤ j := by
  rw [maskB_len, List.length_take]; omega
theorem xor_cells (x : UInt8) (m : UInt8) (i : Int) (hi : i = (m.toNat : Int)) : [Value.int .u8 (bits .xor .u8 (x.toNat : Int) i)] = bC [x ^^^ m] := by
  rw [hi, b_xor]; rfl

theorem xor_nought (m : UInt8) (i : Int) (hi : i = (m.toNat : Int)) : [Value.int .u8 (bits .xor .u8 0 i)] = bC [0 ^^^ m] := by
  have h := xor_cells 0 m i hi
  have e : ((0 : UInt8).toNat : Int) = 0 := rfl
  rwa [e] at h

set_option maxRecDepth 100000 in
set_option maxHeartbeats 1600000 in
theorem nmac_any (s t : ByteArray) (hs : s.size ≤ 1000000) (ht : t.size ≤ 1000000) (w : World) :
    Calls Try.prog 12 #[.string s, .string t] w fun e w' => e = .returned (.string ⟨(macB s.data.toList t.data.toList).toArray⟩) ∧ Below w.heap.size w w' := by
  obtain ⟨i0, hi0, hz0, hz1, hz2⟩ := info_parts Try.info5
  obtain ⟨k, ek⟩ : ∃ k : ByteArray, k.data.toList = keyB s.data.toList := ⟨⟨(keyB s.data.toList).toArray⟩, rfl⟩
  have hk : k.size ≤ 64 := by rw [← data_len, ek]; exact keyB_le _
  have hF : (fillB k.data.toList).length = 64 := fillB_len _ hk
  obtain ⟨A, eA⟩ : ∃ A : ByteArray, A = ⟨(maskB 54 (fillB k.data.toList)).toArray⟩ := ⟨_, rfl⟩
  obtain ⟨B, eB⟩ : ∃ B : ByteArray, B = ⟨(maskB 92 (fillB k.data.toList)).toArray⟩ := ⟨_, rfl⟩
  have hA : A.size = 64 := by rw [← data_len, eA, mk_data, maskB_len, hF]
  have hB : B.size = 64 := by rw [← data_len, eB, mk_data, maskB_len, hF]
  have hU : shaS (B ++ shaS (A ++ t)) = ⟨(macB s.data.toList t.data.toList).toArray⟩ := by
    rw [shaS, shaS, ByteArray.data_append, Array.toList_append, ByteArray.data_append, Array.toList_append, eA, eB, mk_data, mk_data, mk_data, macB, ek]
  rw [← hU]
  have HF := hid hF
  have HA := hid (And.intro eA (And.intro eB (And.intro (And.intro hA (And.intro hB ht)) True.intro)))
  have hsz : (A.size : Int) = 64 ∧ (B.size : Int) = 64 := by omega
  clear hF hA hB eA eB hU
  by_cases hl : 64 < s.size
  · have hl2 : (64 : Int) < (s.size : Int) := by omega
    have ek2 : k = shaS s := ByteArray.ext (Array.toList_inj.1 (by rw [ek, keyB, if_pos (by rw [data_len]; exact hl), shaS, mk_data]))
    have HQ : Hid (∀ u : World, Calls Try.prog 24 #[.string s] u fun e w' => e = .returned (.string k) ∧ Below u.heap.size u w') := hid (fun u => by rw [ek2]; exact qsum_s s (by omega) u)
    clear ek ek2 hl
    go_enter Try.func12, Try.ntmps12
    go_wp2_with (go_at_call 24; refine (HQ.out _).mono ?_; rintro e w1 ⟨rfl, hb1⟩; have H1 := hid hb1; clear hb1)
    go_loopw [5, 6, 7] (fun v1 v2 i wr => ∃ j : Nat, j ≤ 64 ∧ i = .int .i64 (j : Int) ∧ Own2 w.heap.size w wr v1 v2 (maskB 54 ((fillB k.data.toList).take j)) (maskB 92 ((fillB k.data.toList).take j)))
      (fun _ _ i _ => (64 - intOf i).toNat)
    case atStart => exact ⟨0, by omega, rfl, Owned.nil H1.out H1.out.size , Owned.nil H1.out H1.out.size, .inl rfl⟩
    case round =>
      obtain ⟨j, hj, rfl, hO⟩ := hrel
      have HO := hid hO
      clear hO
      by_cases hj64 : j = 64
      · have hk1 : ¬ ((j : Int) < 64) := by omega
        have e64 : (fillB k.data.toList).take j = fillB k.data.toList := List.take_of_length_le (by rw [HF.out, hj64]; exact Nat.le_refl _)
        rw [e64] at HO
        have hA : ∀ x : Cls wr, (convert 41 9 u5).run Try.prog x.1 = .ok (.string A) x.1 := fun x => by rw [HA.out.1]; exact (HO.out.one.keep x.2).text
        have hB : ∀ x : Cls wr, (convert 41 9 u6).run Try.prog x.1 = .ok (.string B) x.1 := fun x => by rw [HA.out.2.1]; exact (HO.out.two.keep x.2).text
        have hsz2 : ((shaS (A ++ t)).size : Int) = 32 := by rw [shaS_size]; rfl
        clear e64 hj hj64
        go_wp2
        haveI := Cls.ne wr
        refine wp_region_cls wr (by kernel_rfl) (by kernel_rfl) ?_
        repeat (go_big_quiet_step ((go_at_call 24; exact Cls.of _ (fun u _ => qsum_s _ (by rw [ByteArray.size_append]; have h0 := HA.out.2.2.1; have h3 := shaS_size (A ++ t); omega) u))))
        refine wpQuiet_nil ?_
        rintro _ ⟨x, rfl⟩
        go_wp2
        go_ret
        exact ⟨rfl, HO.out.one.bel.trans (x.2.mono HO.out.one.le)⟩
      · have hk1 : (j : Int) < 64 := by omega
        have hk0 : (0 : Int) ≤ (j : Int) := Int.natCast_nonneg _
        by_cases hjs : j < k.size
        · have hjs2 : (j : Int) < (k.size : Int) := by omega
          obtain ⟨y, ey⟩ : ∃ y, y = (fillB k.data.toList).getD j 0 := ⟨_, rfl⟩
          have ey2 : y = k[j] := by rw [ey]; exact fill_get k j hjs
          have HY54 := hid (show [Value.int .u8 (bits .xor .u8 ((k[j]).toNat : Int) 54)] = bC [y ^^^ 54] by rw [ey2]; exact xor_cells _ 54 54 rfl)
          have HY92 := hid (show [Value.int .u8 (bits .xor .u8 ((k[j]).toNat : Int) 92)] = bC [y ^^^ 92] by rw [ey2]; exact xor_cells _ 92 92 rfl)
          have HE := hid (And.intro ey (And.intro ey2 hj))
          clear ey ey2
          go_wp2_with (first
            | (at_builtin; have := HO3; refine wpList_append_own_at _ rfl _ _ 41 rfl w.heap.size 5 i0 (.int .u8 0) 1 1 Try.underlying41 hi0 hz0 hz1 hz2 rfl (by decide) _ _ _ rfl (HO3.out.two.alloc _).own ⟨_, 0, none⟩ 1 1 (bC [y ^^^ 92]) rfl rfl (by rw [← HY92.out]; exact World.news_of_block (t := 5) (fr := (0, 0)) (heap_alloc_last _ _)) (bC_one _) (by have := mask_le 92 (fillB k.data.toList) j; unfold maxLen; omega) (by have := mask_le 92 (fillB k.data.toList) j; omega) (HO3.out.two.alloc _).le ?_
               intro v4 w4 hown4 hgrow4 i3 i4
               have HO4 := hid ((Own2.grow _ HO3.out.symm rfl hown4 hgrow4 i4).symm)
               clear hown4 hgrow4 i3 i4)
            | (at_builtin; refine wpList_append_own_at _ rfl _ _ 41 rfl w.heap.size 5 i0 (.int .u8 0) 1 1 Try.underlying41 hi0 hz0 hz1 hz2 rfl (by decide) _ _ _ rfl (HO.out.one.alloc _).own ⟨_, 0, none⟩ 1 1 (bC [y ^^^ 54]) rfl rfl (by rw [← HY54.out]; exact World.news_of_block (t := 5) (fr := (0, 0)) (heap_alloc_last _ _)) (bC_one _) (by have := mask_le 54 (fillB k.data.toList) j; unfold maxLen; omega) (by have := mask_le 54 (fillB k.data.toList) j; omega) (HO.out.one.alloc _).le ?_
               intro v3 w3 hown3 hgrow3 i3 i4
               have HO3 := hid (Own2.grow _ HO.out rfl hown3 hgrow3 i4)
               clear hown3 hgrow3 i3 i4))
          go_roundw
          case rel => exact ⟨j + 1, by omega, rfl, by rw [mask_snoc _ _ _ (by rw [HF.out]; omega), mask_snoc _ _ _ (by rw [HF.out]; omega), ← HE.out.1]; exact HO4.out⟩
          case measure => simp [intOf]; omega
        · have hjs2 : ¬ ((j : Int) < (k.size : Int)) := by omega
          obtain ⟨y, ey⟩ : ∃ y, y = (fillB k.data.toList).getD j 0 := ⟨_, rfl⟩
          have ey2 : y = 0 := by rw [ey]; exact fill_nought k j hjs
          have HY54 := hid (show [Value.int .u8 (bits .xor .u8 0 54)] = bC [y ^^^ 54] by rw [ey2]; exact xor_nought 54 54 rfl)
          have HY92 := hid (show [Value.int .u8 (bits .xor .u8 0 92)] = bC [y ^^^ 92] by rw [ey2]; exact xor_nought 92 92 rfl)
          have HE := hid (And.intro ey (And.intro ey2 hj))
          clear ey ey2
          go_wp2_with (first
            | (at_builtin; have := HO3; refine wpList_append_own_at _ rfl _ _ 41 rfl w.heap.size 5 i0 (.int .u8 0) 1 1 Try.underlying41 hi0 hz0 hz1 hz2 rfl (by decide) _ _ _ rfl (HO3.out.two.alloc _).own ⟨_, 0, none⟩ 1 1 (bC [y ^^^ 92]) rfl rfl (by rw [← HY92.out]; exact World.news_of_block (t := 5) (fr := (0, 0)) (heap_alloc_last _ _)) (bC_one _) (by have := mask_le 92 (fillB k.data.toList) j; unfold maxLen; omega) (by have := mask_le 92 (fillB k.data.toList) j; omega) (HO3.out.two.alloc _).le ?_
               intro v4 w4 hown4 hgrow4 i3 i4
               have HO4 := hid ((Own2.grow _ HO3.out.symm rfl hown4 hgrow4 i4).symm)
               clear hown4 hgrow4 i3 i4)
            | (at_builtin; refine wpList_append_own_at _ rfl _ _ 41 rfl w.heap.size 5 i0 (.int .u8 0) 1 1 Try.underlying41 hi0 hz0 hz1 hz2 rfl (by decide) _ _ _ rfl (HO.out.one.alloc _).own ⟨_, 0, none⟩ 1 1 (bC [y ^^^ 54]) rfl rfl (by rw [← HY54.out]; exact World.news_of_block (t := 5) (fr := (0, 0)) (heap_alloc_last _ _)) (bC_one _) (by have := mask_le 54 (fillB k.data.toList) j; unfold maxLen; omega) (by have := mask_le 54 (fillB k.data.toList) j; omega) (HO.out.one.alloc _).le ?_
               intro v3 w3 hown3 hgrow3 i3 i4
               have HO3 := hid (Own2.grow _ HO.out rfl hown3 hgrow3 i4)
               clear hown3 hgrow3 i3 i4))
          go_roundw
          case rel => exact ⟨j + 1, by omega, rfl, by rw [mask_snoc _ _ _ (by rw [HF.out]; omega), mask_snoc _ _ _ (by rw [HF.out]; omega), ← HE.out.1]; exact HO4.out⟩
          case measure => simp [intOf]; omega
  · have hl2 : ¬ ((64 : Int) < (s.size : Int)) := by omega
    obtain rfl : s = k := ByteArray.ext (Array.toList_inj.1 (by rw [ek, keyB, if_neg (by rw [data_len]; exact hl)]))
    clear ek hl
    go_enter Try.func12, Try.ntmps12
    go_wp2
    go_loopw [5, 6, 7] (fun v1 v2 i wr => ∃ j : Nat, j ≤ 64 ∧ i = .int .i64 (j : Int) ∧ Own2 w.heap.size w wr v1 v2 (maskB 54 ((fillB s.data.toList).take j)) (maskB 92 ((fillB s.data.toList).take j)))
      (fun _ _ i _ => (64 - intOf i).toNat)
    case atStart => exact ⟨0, by omega, rfl, Owned.nil (Below.refl _ _) (Nat.le_refl _) , Owned.nil (Below.refl _ _) (Nat.le_refl _), .inl rfl⟩
    case round =>
      obtain ⟨j, hj, rfl, hO⟩ := hrel
      have HO := hid hO
      clear hO
      by_cases hj64 : j = 64
      · have hk1 : ¬ ((j : Int) < 64) := by omega
        have e64 : (fillB s.data.toList).take j = fillB s.data.toList := List.take_of_length_le (by rw [HF.out, hj64]; exact Nat.le_refl _)
        rw [e64] at HO
        have hA : ∀ x : Cls wr, (convert 41 9 u5).run Try.prog x.1 = .ok (.string A) x.1 := fun x => by rw [HA.out.1]; exact (HO.out.one.keep x.2).text
        have hB : ∀ x : Cls wr, (convert 41 9 u6).run Try.prog x.1 = .ok (.string B) x.1 := fun x => by rw [HA.out.2.1]; exact (HO.out.two.keep x.2).text
        have hsz2 : ((shaS (A ++ t)).size : Int) = 32 := by rw [shaS_size]; rfl
        clear e64 hj hj64
        go_wp2
        haveI := Cls.ne wr
        refine wp_region_cls wr (by kernel_rfl) (by kernel_rfl) ?_
        repeat (go_big_quiet_step ((go_at_call 24; exact Cls.of _ (fun u _ => qsum_s _ (by rw [ByteArray.size_append]; have h0 := HA.out.2.2.1; have h3 := shaS_size (A ++ t); omega) u))))
        refine wpQuiet_nil ?_
        rintro _ ⟨x, rfl⟩
        go_wp2
        go_ret
        exact ⟨rfl, HO.out.one.bel.trans (x.2.mono HO.out.one.le)⟩
      · have hk1 : (j : Int) < 64 := by omega
        have hk0 : (0 : Int) ≤ (j : Int) := Int.natCast_nonneg _
        by_cases hjs : j < s.size
        · have hjs2 : (j : Int) < (s.size : Int) := by omega
          obtain ⟨y, ey⟩ : ∃ y, y = (fillB s.data.toList).getD j 0 := ⟨_, rfl⟩
          have ey2 : y = s[j] := by rw [ey]; exact fill_get s j hjs
          have HY54 := hid (show [Value.int .u8 (bits .xor .u8 ((s[j]).toNat : Int) 54)] = bC [y ^^^ 54] by rw [ey2]; exact xor_cells _ 54 54 rfl)
          have HY92 := hid (show [Value.int .u8 (bits .xor .u8 ((s[j]).toNat : Int) 92)] = bC [y ^^^ 92] by rw [ey2]; exact xor_cells _ 92 92 rfl)
          have HE := hid (And.intro ey (And.intro ey2 hj))
          clear ey ey2
          go_wp2_with (first
            | (at_builtin; have := HO3; refine wpList_append_own_at _ rfl _ _ 41 rfl w.heap.size 5 i0 (.int .u8 0) 1 1 Try.underlying41 hi0 hz0 hz1 hz2 rfl (by decide) _ _ _ rfl (HO3.out.two.alloc _).own ⟨_, 0, none⟩ 1 1 (bC [y ^^^ 92]) rfl rfl (by rw [← HY92.out]; exact World.news_of_block (t := 5) (fr := (0, 0)) (heap_alloc_last _ _)) (bC_one _) (by have := mask_le 92 (fillB s.data.toList) j; unfold maxLen; omega) (by have := mask_le 92 (fillB s.data.toList) j; omega) (HO3.out.two.alloc _).le ?_
               intro v4 w4 hown4 hgrow4 i3 i4
               have HO4 := hid ((Own2.grow _ HO3.out.symm rfl hown4 hgrow4 i4).symm)
               clear hown4 hgrow4 i3 i4)
            | (at_builtin; refine wpList_append_own_at _ rfl _ _ 41 rfl w.heap.size 5 i0 (.int .u8 0) 1 1 Try.underlying41 hi0 hz0 hz1 hz2 rfl (by decide) _ _ _ rfl (HO.out.one.alloc _).own ⟨_, 0, none⟩ 1 1 (bC [y ^^^ 54]) rfl rfl (by rw [← HY54.out]; exact World.news_of_block (t := 5) (fr := (0, 0)) (heap_alloc_last _ _)) (bC_one _) (by have := mask_le 54 (fillB s.data.toList) j; unfold maxLen; omega) (by have := mask_le 54 (fillB s.data.toList) j; omega) (HO.out.one.alloc _).le ?_
               intro v3 w3 hown3 hgrow3 i3 i4
               have HO3 := hid (Own2.grow _ HO.out rfl hown3 hgrow3 i4)
               clear hown3 hgrow3 i3 i4))
          go_roundw
          case rel => exact ⟨j + 1, by omega, rfl, by rw [mask_snoc _ _ _ (by rw [HF.out]; omega), mask_snoc _ _ _ (by rw [HF.out]; omega), ← HE.out.1]; exact HO4.out⟩
          case measure => simp [intOf]; omega
        · have hjs2 : ¬ ((j : Int) < (s.size : Int)) := by omega
          obtain ⟨y, ey⟩ : ∃ y, y = (fillB s.data.toList).getD j 0 := ⟨_, rfl⟩
          have ey2 : y = 0 := by rw [ey]; exact fill_nought s j hjs
          have HY54 := hid (show [Value.int .u8 (bits .xor .u8 0 54)] = bC [y ^^^ 54] by rw [ey2]; exact xor_nought 54 54 rfl)
          have HY92 := hid (show [Value.int .u8 (bits .xor .u8 0 92)] = bC [y ^^^ 92] by rw [ey2]; exact xor_nought 92 92 rfl)
          have HE := hid (And.intro ey (And.intro ey2 hj))
          clear ey ey2
          go_wp2_with (first
            | (at_builtin; have := HO3; refine wpList_append_own_at _ rfl _ _ 41 rfl w.heap.size 5 i0 (.int .u8 0) 1 1 Try.underlying41 hi0 hz0 hz1 hz2 rfl (by decide) _ _ _ rfl (HO3.out.two.alloc _).own ⟨_, 0, none⟩ 1 1 (bC [y ^^^ 92]) rfl rfl (by rw [← HY92.out]; exact World.news_of_block (t := 5) (fr := (0, 0)) (heap_alloc_last _ _)) (bC_one _) (by have := mask_le 92 (fillB s.data.toList) j; unfold maxLen; omega) (by have := mask_le 92 (fillB s.data.toList) j; omega) (HO3.out.two.alloc _).le ?_
               intro v4 w4 hown4 hgrow4 i3 i4
               have HO4 := hid ((Own2.grow _ HO3.out.symm rfl hown4 hgrow4 i4).symm)
               clear hown4 hgrow4 i3 i4)
            | (at_builtin; refine wpList_append_own_at _ rfl _ _ 41 rfl w.heap.size 5 i0 (.int .u8 0) 1 1 Try.underlying41 hi0 hz0 hz1 hz2 rfl (by decide) _ _ _ rfl (HO.out.one.alloc _).own ⟨_, 0, none⟩ 1 1 (bC [y ^^^ 54]) rfl rfl (by rw [← HY54.out]; exact World.news_of_block (t := 5) (fr := (0, 0)) (heap_alloc_last _ _)) (bC_one _) (by have := mask_le 54 (fillB s.data.toList) j; unfold maxLen; omega) (by have := mask_le 54 (fillB s.data.toList) j; omega) (HO.out.one.alloc _).le ?_
               intro v3 w3 hown3 hgrow3 i3 i4
               have HO3 := hid (Own2.grow _ HO.out rfl hown3 hgrow3 i4)
               clear hown3 hgrow3 i3 i4))
          go_roundw
          case rel => exact ⟨j + 1, by omega, rfl, by rw [mask_snoc _ _ _ (by rw [HF.out]; omega), mask_snoc _ _ _ (by rw [HF.out]; omega), ← HE.out.1]; exact HO4.out⟩
          case measure => simp [intOf]; omega
end Go.Proofs.Ytnlmjclloaholaa
