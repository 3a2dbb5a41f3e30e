/- The contract of the document's Scan (layer 1's reference). -/
import Derived.Test.YthhgpfcbhaoeiaaMrR
import Derived.Maps.AppendAt
namespace Go.Proofs.Ythhgpfcbhaoeiaa
open Go.RowKit

theorem Try.info57 : (Try.prog.info? 57).map (fun i => (i.zero, i.size, i.bytes)) = some (some (.agg #[.int .i64 0, .int .u64 0, .string ⟨#[]⟩]), 3, 32) := by kernel_rfl

/-- What a call of the document's Scan leaves. -/
def MScanPost (sh t : ByteArray) (w : World) (e : Ending) (w' : World) : Prop :=
  ∃ v, e = .returned (.tuple #[v, .int .i64 (scE sh t)]) ∧ w'.ownsRow w.heap.size 57 3 v (scV sh t).length (vC (scV sh t)) ∧ Below w.heap.size w w'

theorem ltr_cases (c : UInt8) (h : ltr c = true) : c = 98 ∨ c = 119 ∨ c = 108 ∨ c = 113 ∨ c = 116 := by
  simp [ltr] at h
  rcases h with (((h | h) | h) | h) | h <;> simp [h]
theorem ltr_none (c : UInt8) (h : ltr c = false) : (c.toNat : Int) ≠ 98 ∧ (c.toNat : Int) ≠ 119 ∧ (c.toNat : Int) ≠ 108 ∧ (c.toNat : Int) ≠ 113 ∧ (c.toNat : Int) ≠ 116 := by
  simp [ltr] at h
  have key : ∀ (d : UInt8), c ≠ d → (c.toNat : Int) ≠ (d.toNat : Int) := fun d hd e => hd (UInt8.toNat_inj.1 (by omega))
  exact ⟨key 98 h.1.1.1.1, key 119 h.1.1.1.2, key 108 h.1.1.2, key 113 h.1.2, key 116 h.2⟩

theorem mscan_base {x : World} {B n : Nat} {v : Value} {xs : List Value} (h : x.ownsRow (B + 1) 57 3 v n xs) : x.ownsRow B 57 3 v n xs := by
  obtain ⟨h1, h2⟩ := h
  refine ⟨h1, ?_⟩
  rcases h2 with h2 | ⟨g, cap, cur, hv, hg, r⟩
  · exact .inl h2
  · exact .inr ⟨g, cap, cur, hv, by omega, r⟩
theorem mrow_kept {w w' : World} {B : Nat} {v : Value} {n : Nat} {xs : List Value} (h : w.ownsRow (B + 1) 57 3 v n xs) (hk : Kept B none w w') : w'.ownsRow (B + 1) 57 3 v n xs := by
  obtain ⟨h1, h2⟩ := h
  refine ⟨h1, ?_⟩
  rcases h2 with h2 | ⟨g, cap, cur, hv, hg, hh, r⟩
  · exact .inl h2
  · exact .inr ⟨g, cap, cur, hv, hg, by rw [hk.block g (lt_of_blk hh) (by omega) (by simp)]; exact hh, r⟩
/-- What one round leaves. -/
theorem mscan_step {w wr w2 w3 : World} {v v3 : Value} {n m : Nat} {xs ys : List Value} {s' : ByteArray} {b' : Bool} {o : Obj}
    (hR : wr.ownsRow (w.heap.size + 1) 57 3 v n xs) (hbel : Below w.heap.size w wr) (hm2 : MrAt w2 w.heap.size s' b') (hk2 : Kept w.heap.size none wr w2)
    (hown : w3.ownsRow (w.heap.size + 1) 57 3 v3 m ys) (hgrow : (w2.alloc o).grownBy w3 v.ownBlock) :
    MrAt w3 w.heap.size s' b' ∧ w3.ownsRow (w.heap.size + 1) 57 3 v3 m ys ∧ Below w.heap.size w w3 := by
  have hs2 := hk2.size
  have hbs := hbel.size
  have hlt := lt_of_blk hm2
  refine ⟨?_, hown, ?_⟩
  · exact (hgrow.block w.heap.size (by simp; omega) (fun e => by have := (hR.lt _ e.symm).1; omega)).trans ((Below.heap_alloc w2 o _ hlt).trans hm2)
  · have hb2 : Below w.heap.size w w2 := hbel.trans ⟨hk2.os, hk2.tape, hk2.output, hk2.size, fun k hk => hk2.block k (by omega) (by omega) (by simp)⟩
    exact (hb2.alloc (by omega) o).grown hgrow (by simp; omega) (fun k hk => by have := (hR.lt k hk).1; omega)

theorem nxS_le (c : UInt8) (s : ByteArray) : (nxS c s).size ≤ s.size := by
  have hr : ∀ n, (rS s false n).size ≤ s.size := fun n => by
    unfold rS
    split
    · simp
    · exact Nat.le_refl _
  have ht : (tS s false).size ≤ s.size := by
    unfold tS
    split
    · simp
    · exact Nat.le_refl _
  unfold nxS
  repeat (first | exact hr _ | exact ht | split)
theorem scn_size (l : List UInt8) : ∀ (s : ByteArray) (x : List (Nat × Nat × ByteArray) × ByteArray), scn l s = some x → x.2.size ≤ s.size := by
  induction l with
  | nil => intro s x h; simp [scn] at h; subst h; exact Nat.le_refl _
  | cons d l ih =>
    intro s x h
    rw [scn] at h
    split at h
    · simp at h
      obtain ⟨a, b, h1, rfl⟩ := h
      exact Nat.le_trans (ih _ (a, b) h1) (nxS_le d s)
    · cases h

set_option maxRecDepth 100000 in
set_option maxHeartbeats 12800000 in
theorem mscan_any (sh t : ByteArray) (w : World) (hs : sh.size * 32 ≤ 140737488355328) (ht : t.size ≤ 9223372036854775807) :
    Calls Try.prog 23 #[.string sh, .string t] w (MScanPost sh t w) := by
  obtain ⟨i0, hi0, hz0, hz1, hz2⟩ := info_parts Try.info57
  go_enter Try.func23, Try.ntmps23
  go_wp2_with fail
  go_loop [6] (fun i => ∃ k : Nat, k ≤ sh.size ∧ i = .int .i64 k ∧ okShape (sh.data.toList.take k) = true) (fun i => sh.size - (intOf i).toNat)
  case atStart => exact ⟨0, Nat.zero_le _, rfl, rfl⟩
  case round =>
    obtain ⟨k, hk, rfl, hok⟩ := hrel
    have HO := hid hok
    clear hok
    by_cases hlt : k < sh.size
    · cases hc : ltr sh[k] with
      | true =>
        have HC := hid hc
        have hcs := ltr_cases _ hc
        clear hc
        have HNext : Hid (okShape (sh.data.toList.take (k + 1)) = true) := by
          rw [take_snoc sh k hlt, okShape, List.all_append]
          have := HO.out
          unfold okShape at this
          simp [Hid, this, HC.out]
        rcases hcs with hcc | hcc | hcc | hcc | hcc
        · have hci : (sh[k].toNat : Int) = 98 := by rw [hcc]; rfl
          clear hcc
          go_wp2
          go_round
          case rel => exact ⟨k + 1, by omega, by go_num, HNext.out⟩
          case measure => simp [intOf]; omega
        · have hci : (sh[k].toNat : Int) = 119 := by rw [hcc]; rfl
          clear hcc
          go_wp2
          go_round
          case rel => exact ⟨k + 1, by omega, by go_num, HNext.out⟩
          case measure => simp [intOf]; omega
        · have hci : (sh[k].toNat : Int) = 108 := by rw [hcc]; rfl
          clear hcc
          go_wp2
          go_round
          case rel => exact ⟨k + 1, by omega, by go_num, HNext.out⟩
          case measure => simp [intOf]; omega
        · have hci : (sh[k].toNat : Int) = 113 := by rw [hcc]; rfl
          clear hcc
          go_wp2
          go_round
          case rel => exact ⟨k + 1, by omega, by go_num, HNext.out⟩
          case measure => simp [intOf]; omega
        · have hci : (sh[k].toNat : Int) = 116 := by rw [hcc]; rfl
          clear hcc
          go_wp2
          go_round
          case rel => exact ⟨k + 1, by omega, by go_num, HNext.out⟩
          case measure => simp [intOf]; omega
      | false =>
        obtain ⟨q1, q2, q3, q4, q5⟩ := ltr_none _ hc
        have n1 : ((sh[k].toNat : Int) != 98) = true := by simpa using q1
        have n2 : ((sh[k].toNat : Int) != 119) = true := by simpa using q2
        have n3 : ((sh[k].toNat : Int) != 108) = true := by simpa using q3
        have n4 : ((sh[k].toNat : Int) != 113) = true := by simpa using q4
        have n5 : ((sh[k].toNat : Int) != 116) = true := by simpa using q5
        have e : okShape sh.data.toList = false := by
          unfold okShape
          rw [List.all_eq_false]
          exact ⟨sh[k], by have : sh[k] ∈ sh.data.toList := by simp [ByteArray.getElem_eq_getElem_data]
                           exact this, by simp [hc]⟩
        have HE : Hid (scE sh t = 1 ∧ scV sh t = []) := by unfold Hid; simp [scE, scV, e]
        clear q1 q2 q3 q4 q5 hc e
        go_wp2
        go_ret2
        exact ⟨.slice none 0 0, by rw [HE.out.1]; rfl, by rw [HE.out.2]; exact World.ownsRow_nil _ _ _ _, Below.refl _ _⟩
    · have hok : okShape sh.data.toList = true := by
        have := HO.out
        rwa [List.take_of_length_le (by simp; have : sh.data.size = sh.size := rfl; omega)] at this
      have HB := hid hok
      clear hok
      go_wp2_with fail
      go_loopw [9, 10] (fun x i wr => ∃ (k : Nat) (vs : List (Nat × Nat × ByteArray)) (sk : ByteArray) (v : Value), k ≤ sh.size ∧ i = .int .i64 k ∧ v = x ∧ scn (sh.data.toList.take k) t = some (vs, sk) ∧
          MrAt wr w.heap.size sk false ∧ wr.ownsRow (w.heap.size + 1) 57 3 v vs.length (vC vs) ∧ Below w.heap.size w wr)
        (fun _ i _ => sh.size - (intOf i).toNat)
      case atStart => exact ⟨0, [], t, _, Nat.zero_le _, rfl, rfl, rfl, heap_alloc_new w _, World.ownsRow_nil _ _ _ _, (Below.refl _ _).alloc (Nat.le_refl _) _⟩
      case round =>
        obtain ⟨k, vs, sk, v, hk, rfl, rfl, hsc, hmr, hown, hbel⟩ := hrel
        have HS := hid hsc
        have HM := hid (And.intro hmr (And.intro hown hbel))
        have hskz : sk.size ≤ 9223372036854775807 := by have := scn_size _ _ _ hsc; simp at this; omega
        clear hsc hmr hown hbel
        by_cases hlt : k < sh.size
        · have hvl : vs.length ≤ k := by have := scn_len _ _ _ HS.out; simp at this; omega
          have hc : ltr sh[k] = true := by
            have := HB.out
            unfold okShape at this
            rw [List.all_eq_true] at this
            exact this _ (by simp [ByteArray.getElem_eq_getElem_data])
          have HCc := hid hc
          clear hc
          cases hnx : nxOK sh[k] sk with
          | true =>
            have HN := hid hnx
            clear hnx
            rcases ltr_cases _ HCc.out with hcc | hcc | hcc | hcc | hcc
            · have hbad : rB sk false 1 = false := by have := HN.out; simpa [nxOK, hcc, rB] using this
              have hcall : Calls Try.prog 38 #[.pointer (some ⟨w.heap.size, 0, none⟩), .int .i64 1] wr fun e w' => e = .returned (.int .i64 (rN sk false 1 : Int)) ∧ MrAt w' w.heap.size (rS sk false 1) (rB sk false 1) ∧ Kept w.heap.size none wr w' := mnum_any w.heap.size sk false 1 wr HM.out.1 (by decide) (by decide)
              rw [hbad] at hcall
              have HX := hid hcall
              have hci : (sh[k].toNat : Int) = 98 := by rw [hcc]; rfl
              have HV : Hid ((nxN sh[k] sk, nxQ sh[k] sk, nxT sh[k] sk) = (rN sk false 1, 0, (⟨#[]⟩ : ByteArray)) ∧ nxS sh[k] sk = rS sk false 1) := by
                unfold Hid
                rw [hcc]
                exact ⟨rfl, rfl⟩
              clear hbad hcall hcc hskz
              go_wp2_with fail
              refine HX.out.mono ?_
              rintro e w2 ⟨rfl, hm2, hk2⟩
              have hown2 := mrow_kept HM.out.2.1 hk2
              have hs2 := hk2.size
              have hlw := HM.out.1.lt
              have H2 := hid (And.intro hm2 hk2)
              clear hm2 hk2
              go_wp2_with (at_builtin; refine wpList_append_own_at _ rfl _ _ 52 rfl (w.heap.size + 1) 57 i0 _ 3 32 Try.underlying52 hi0 hz0 hz1 hz2 rfl (by decide) v vs.length (vC vs) rfl (hown2.alloc _) ⟨w2.heap.size, 0, none⟩ 1 1 [.int .i64 (rN sk false 1 : Int), .int .u64 0, .string ⟨#[]⟩] rfl rfl (World.news_of_block (cs := #[.int .i64 (rN sk false 1 : Int), .int .u64 0, .string ⟨#[]⟩]) (t := 57) (fr := (0, 0)) (heap_alloc_new w2 _)) (by simp [Value.oneCell']) (by unfold maxLen; omega) (by omega) (by simp; omega) ?_)
              intro v3 w3 hown3 hgrow _ _
              have st := mscan_step HM.out.2.1 HM.out.2.2 H2.out.1 H2.out.2 hown3 hgrow
              have cb := st.1.c1
              have H3 := hid st
              clear hown3 hgrow hown2 st
              go_wp2
              go_roundw
              case rel =>
                refine ⟨k + 1, vs ++ [(nxN sh[k] sk, nxQ sh[k] sk, nxT sh[k] sk)], nxS sh[k] sk, v3, by omega, by go_num, rfl, ?_, by rw [HV.out.2]; exact H3.out.1, ?_, H3.out.2.2⟩
                · rw [take_snoc sh k hlt, scn_snoc, HS.out]
                  simp [HN.out]
                · rw [List.length_append, vC_app, HV.out.1]; exact H3.out.2.1
              case measure => simp [intOf]; omega
            · have hbad : rB sk false 2 = false := by have := HN.out; simpa [nxOK, hcc, rB] using this
              have hcall : Calls Try.prog 38 #[.pointer (some ⟨w.heap.size, 0, none⟩), .int .i64 2] wr fun e w' => e = .returned (.int .i64 (rN sk false 2 : Int)) ∧ MrAt w' w.heap.size (rS sk false 2) (rB sk false 2) ∧ Kept w.heap.size none wr w' := mnum_any w.heap.size sk false 2 wr HM.out.1 (by decide) (by decide)
              rw [hbad] at hcall
              have HX := hid hcall
              have hci : (sh[k].toNat : Int) = 119 := by rw [hcc]; rfl
              have HV : Hid ((nxN sh[k] sk, nxQ sh[k] sk, nxT sh[k] sk) = (rN sk false 2, 0, (⟨#[]⟩ : ByteArray)) ∧ nxS sh[k] sk = rS sk false 2) := by
                unfold Hid
                rw [hcc]
                exact ⟨rfl, rfl⟩
              clear hbad hcall hcc hskz
              go_wp2_with fail
              refine HX.out.mono ?_
              rintro e w2 ⟨rfl, hm2, hk2⟩
              have hown2 := mrow_kept HM.out.2.1 hk2
              have hs2 := hk2.size
              have hlw := HM.out.1.lt
              have H2 := hid (And.intro hm2 hk2)
              clear hm2 hk2
              go_wp2_with (at_builtin; refine wpList_append_own_at _ rfl _ _ 52 rfl (w.heap.size + 1) 57 i0 _ 3 32 Try.underlying52 hi0 hz0 hz1 hz2 rfl (by decide) v vs.length (vC vs) rfl (hown2.alloc _) ⟨w2.heap.size, 0, none⟩ 1 1 [.int .i64 (rN sk false 2 : Int), .int .u64 0, .string ⟨#[]⟩] rfl rfl (World.news_of_block (cs := #[.int .i64 (rN sk false 2 : Int), .int .u64 0, .string ⟨#[]⟩]) (t := 57) (fr := (0, 0)) (heap_alloc_new w2 _)) (by simp [Value.oneCell']) (by unfold maxLen; omega) (by omega) (by simp; omega) ?_)
              intro v3 w3 hown3 hgrow _ _
              have st := mscan_step HM.out.2.1 HM.out.2.2 H2.out.1 H2.out.2 hown3 hgrow
              have cb := st.1.c1
              have H3 := hid st
              clear hown3 hgrow hown2 st
              go_wp2
              go_roundw
              case rel =>
                refine ⟨k + 1, vs ++ [(nxN sh[k] sk, nxQ sh[k] sk, nxT sh[k] sk)], nxS sh[k] sk, v3, by omega, by go_num, rfl, ?_, by rw [HV.out.2]; exact H3.out.1, ?_, H3.out.2.2⟩
                · rw [take_snoc sh k hlt, scn_snoc, HS.out]
                  simp [HN.out]
                · rw [List.length_append, vC_app, HV.out.1]; exact H3.out.2.1
              case measure => simp [intOf]; omega
            · have hbad : rB sk false 4 = false := by have := HN.out; simpa [nxOK, hcc, rB] using this
              have hcall : Calls Try.prog 38 #[.pointer (some ⟨w.heap.size, 0, none⟩), .int .i64 4] wr fun e w' => e = .returned (.int .i64 (rN sk false 4 : Int)) ∧ MrAt w' w.heap.size (rS sk false 4) (rB sk false 4) ∧ Kept w.heap.size none wr w' := mnum_any w.heap.size sk false 4 wr HM.out.1 (by decide) (by decide)
              rw [hbad] at hcall
              have HX := hid hcall
              have hci : (sh[k].toNat : Int) = 108 := by rw [hcc]; rfl
              have HV : Hid ((nxN sh[k] sk, nxQ sh[k] sk, nxT sh[k] sk) = (rN sk false 4, 0, (⟨#[]⟩ : ByteArray)) ∧ nxS sh[k] sk = rS sk false 4) := by
                unfold Hid
                rw [hcc]
                exact ⟨rfl, rfl⟩
              clear hbad hcall hcc hskz
              go_wp2_with fail
              refine HX.out.mono ?_
              rintro e w2 ⟨rfl, hm2, hk2⟩
              have hown2 := mrow_kept HM.out.2.1 hk2
              have hs2 := hk2.size
              have hlw := HM.out.1.lt
              have H2 := hid (And.intro hm2 hk2)
              clear hm2 hk2
              go_wp2_with (at_builtin; refine wpList_append_own_at _ rfl _ _ 52 rfl (w.heap.size + 1) 57 i0 _ 3 32 Try.underlying52 hi0 hz0 hz1 hz2 rfl (by decide) v vs.length (vC vs) rfl (hown2.alloc _) ⟨w2.heap.size, 0, none⟩ 1 1 [.int .i64 (rN sk false 4 : Int), .int .u64 0, .string ⟨#[]⟩] rfl rfl (World.news_of_block (cs := #[.int .i64 (rN sk false 4 : Int), .int .u64 0, .string ⟨#[]⟩]) (t := 57) (fr := (0, 0)) (heap_alloc_new w2 _)) (by simp [Value.oneCell']) (by unfold maxLen; omega) (by omega) (by simp; omega) ?_)
              intro v3 w3 hown3 hgrow _ _
              have st := mscan_step HM.out.2.1 HM.out.2.2 H2.out.1 H2.out.2 hown3 hgrow
              have cb := st.1.c1
              have H3 := hid st
              clear hown3 hgrow hown2 st
              go_wp2
              go_roundw
              case rel =>
                refine ⟨k + 1, vs ++ [(nxN sh[k] sk, nxQ sh[k] sk, nxT sh[k] sk)], nxS sh[k] sk, v3, by omega, by go_num, rfl, ?_, by rw [HV.out.2]; exact H3.out.1, ?_, H3.out.2.2⟩
                · rw [take_snoc sh k hlt, scn_snoc, HS.out]
                  simp [HN.out]
                · rw [List.length_append, vC_app, HV.out.1]; exact H3.out.2.1
              case measure => simp [intOf]; omega
            · have hbad : rB sk false 8 = false := by have := HN.out; simpa [nxOK, hcc, rB] using this
              have hcall : Calls Try.prog 39 #[.pointer (some ⟨w.heap.size, 0, none⟩), .int .i64 8] wr fun e w' => e = .returned (.int .u64 (rN sk false 8 : Int)) ∧ MrAt w' w.heap.size (rS sk false 8) (rB sk false 8) ∧ Kept w.heap.size none wr w' := mbits_any w.heap.size sk false 8 wr HM.out.1 (by decide)
              rw [hbad] at hcall
              have HX := hid hcall
              have hci : (sh[k].toNat : Int) = 113 := by rw [hcc]; rfl
              have HV : Hid ((nxN sh[k] sk, nxQ sh[k] sk, nxT sh[k] sk) = (0, rN sk false 8, (⟨#[]⟩ : ByteArray)) ∧ nxS sh[k] sk = rS sk false 8) := by
                unfold Hid
                rw [hcc]
                exact ⟨rfl, rfl⟩
              clear hbad hcall hcc hskz
              go_wp2_with fail
              refine HX.out.mono ?_
              rintro e w2 ⟨rfl, hm2, hk2⟩
              have hown2 := mrow_kept HM.out.2.1 hk2
              have hs2 := hk2.size
              have hlw := HM.out.1.lt
              have H2 := hid (And.intro hm2 hk2)
              clear hm2 hk2
              go_wp2_with (at_builtin; refine wpList_append_own_at _ rfl _ _ 52 rfl (w.heap.size + 1) 57 i0 _ 3 32 Try.underlying52 hi0 hz0 hz1 hz2 rfl (by decide) v vs.length (vC vs) rfl (hown2.alloc _) ⟨w2.heap.size, 0, none⟩ 1 1 [.int .i64 0, .int .u64 (rN sk false 8 : Int), .string ⟨#[]⟩] rfl rfl (World.news_of_block (cs := #[.int .i64 0, .int .u64 (rN sk false 8 : Int), .string ⟨#[]⟩]) (t := 57) (fr := (0, 0)) (heap_alloc_new w2 _)) (by simp [Value.oneCell']) (by unfold maxLen; omega) (by omega) (by simp; omega) ?_)
              intro v3 w3 hown3 hgrow _ _
              have st := mscan_step HM.out.2.1 HM.out.2.2 H2.out.1 H2.out.2 hown3 hgrow
              have cb := st.1.c1
              have H3 := hid st
              clear hown3 hgrow hown2 st
              go_wp2
              go_roundw
              case rel =>
                refine ⟨k + 1, vs ++ [(nxN sh[k] sk, nxQ sh[k] sk, nxT sh[k] sk)], nxS sh[k] sk, v3, by omega, by go_num, rfl, ?_, by rw [HV.out.2]; exact H3.out.1, ?_, H3.out.2.2⟩
                · rw [take_snoc sh k hlt, scn_snoc, HS.out]
                  simp [HN.out]
                · rw [List.length_append, vC_app, HV.out.1]; exact H3.out.2.1
              case measure => simp [intOf]; omega
            · have hbad : tB sk false = false := by have := HN.out; simpa [nxOK, hcc, tB] using this
              have hcall : Calls Try.prog 40 #[.pointer (some ⟨w.heap.size, 0, none⟩)] wr fun e w' => e = .returned (.string (tT sk false)) ∧ MrAt w' w.heap.size (tS sk false) (tB sk false) ∧ Kept w.heap.size none wr w' := mtext_any w.heap.size sk false wr HM.out.1 hskz
              rw [hbad] at hcall
              have HX := hid hcall
              have hci : (sh[k].toNat : Int) = 116 := by rw [hcc]; rfl
              have HV : Hid ((nxN sh[k] sk, nxQ sh[k] sk, nxT sh[k] sk) = (0, 0, tT sk false) ∧ nxS sh[k] sk = tS sk false) := by
                unfold Hid
                rw [hcc]
                exact ⟨rfl, rfl⟩
              clear hbad hcall hcc hskz
              go_wp2_with fail
              refine HX.out.mono ?_
              rintro e w2 ⟨rfl, hm2, hk2⟩
              have hown2 := mrow_kept HM.out.2.1 hk2
              have hs2 := hk2.size
              have hlw := HM.out.1.lt
              have H2 := hid (And.intro hm2 hk2)
              clear hm2 hk2
              go_wp2_with (at_builtin; refine wpList_append_own_at _ rfl _ _ 52 rfl (w.heap.size + 1) 57 i0 _ 3 32 Try.underlying52 hi0 hz0 hz1 hz2 rfl (by decide) v vs.length (vC vs) rfl (hown2.alloc _) ⟨w2.heap.size, 0, none⟩ 1 1 [.int .i64 0, .int .u64 0, .string (tT sk false)] rfl rfl (World.news_of_block (cs := #[.int .i64 0, .int .u64 0, .string (tT sk false)]) (t := 57) (fr := (0, 0)) (heap_alloc_new w2 _)) (by simp [Value.oneCell']) (by unfold maxLen; omega) (by omega) (by simp; omega) ?_)
              intro v3 w3 hown3 hgrow _ _
              have st := mscan_step HM.out.2.1 HM.out.2.2 H2.out.1 H2.out.2 hown3 hgrow
              have cb := st.1.c1
              have H3 := hid st
              clear hown3 hgrow hown2 st
              go_wp2
              go_roundw
              case rel =>
                refine ⟨k + 1, vs ++ [(nxN sh[k] sk, nxQ sh[k] sk, nxT sh[k] sk)], nxS sh[k] sk, v3, by omega, by go_num, rfl, ?_, by rw [HV.out.2]; exact H3.out.1, ?_, H3.out.2.2⟩
                · rw [take_snoc sh k hlt, scn_snoc, HS.out]
                  simp [HN.out]
                · rw [List.length_append, vC_app, HV.out.1]; exact H3.out.2.1
              case measure => simp [intOf]; omega
          | false =>
            have HN := hid hnx
            clear hnx
            have hE : scE sh t = 2 ∧ scV sh t = [] := by
              have h1 : scn (sh.data.toList.take (k + 1)) t = none := by rw [take_snoc sh k hlt, scn_snoc, HS.out]; simp [HN.out]
              have h2 := scn_none _ (sh.data.toList.drop (k + 1)) _ h1
              rw [List.take_append_drop] at h2
              simp [scE, scV, HB.out, h2]
            have HE := hid hE
            clear hE
            rcases ltr_cases _ HCc.out with hcc | hcc | hcc | hcc | hcc
            · have hbad : rB sk false 1 = true := by have := HN.out; simpa [nxOK, hcc, rB] using this
              have hcall : Calls Try.prog 38 #[.pointer (some ⟨w.heap.size, 0, none⟩), .int .i64 1] wr fun e w' => e = .returned (.int .i64 (rN sk false 1 : Int)) ∧ MrAt w' w.heap.size (rS sk false 1) (rB sk false 1) ∧ Kept w.heap.size none wr w' := mnum_any w.heap.size sk false 1 wr HM.out.1 (by decide) (by decide)
              rw [hbad] at hcall
              have HX := hid hcall
              have hci : (sh[k].toNat : Int) = 98 := by rw [hcc]; rfl
              clear hbad hcall hcc hskz
              go_wp2_with fail
              refine HX.out.mono ?_
              rintro e w2 ⟨rfl, hm2, hk2⟩
              have hown2 := mrow_kept HM.out.2.1 hk2
              have hs2 := hk2.size
              have hlw := HM.out.1.lt
              have H2 := hid (And.intro hm2 hk2)
              clear hm2 hk2
              go_wp2_with (at_builtin; refine wpList_append_own_at _ rfl _ _ 52 rfl (w.heap.size + 1) 57 i0 _ 3 32 Try.underlying52 hi0 hz0 hz1 hz2 rfl (by decide) v vs.length (vC vs) rfl (hown2.alloc _) ⟨w2.heap.size, 0, none⟩ 1 1 [.int .i64 (rN sk false 1 : Int), .int .u64 0, .string ⟨#[]⟩] rfl rfl (World.news_of_block (cs := #[.int .i64 (rN sk false 1 : Int), .int .u64 0, .string ⟨#[]⟩]) (t := 57) (fr := (0, 0)) (heap_alloc_new w2 _)) (by simp [Value.oneCell']) (by unfold maxLen; omega) (by omega) (by simp; omega) ?_)
              intro v3 w3 hown3 hgrow _ _
              have st := mscan_step HM.out.2.1 HM.out.2.2 H2.out.1 H2.out.2 hown3 hgrow
              have cb := st.1.c1
              have H3 := hid st
              clear hown3 hgrow hown2 st
              go_wp2
              go_ret2
              exact ⟨.slice none 0 0, by rw [HE.out.1]; rfl, by rw [HE.out.2]; exact World.ownsRow_nil _ _ _ _, H3.out.2.2⟩
            · have hbad : rB sk false 2 = true := by have := HN.out; simpa [nxOK, hcc, rB] using this
              have hcall : Calls Try.prog 38 #[.pointer (some ⟨w.heap.size, 0, none⟩), .int .i64 2] wr fun e w' => e = .returned (.int .i64 (rN sk false 2 : Int)) ∧ MrAt w' w.heap.size (rS sk false 2) (rB sk false 2) ∧ Kept w.heap.size none wr w' := mnum_any w.heap.size sk false 2 wr HM.out.1 (by decide) (by decide)
              rw [hbad] at hcall
              have HX := hid hcall
              have hci : (sh[k].toNat : Int) = 119 := by rw [hcc]; rfl
              clear hbad hcall hcc hskz
              go_wp2_with fail
              refine HX.out.mono ?_
              rintro e w2 ⟨rfl, hm2, hk2⟩
              have hown2 := mrow_kept HM.out.2.1 hk2
              have hs2 := hk2.size
              have hlw := HM.out.1.lt
              have H2 := hid (And.intro hm2 hk2)
              clear hm2 hk2
              go_wp2_with (at_builtin; refine wpList_append_own_at _ rfl _ _ 52 rfl (w.heap.size + 1) 57 i0 _ 3 32 Try.underlying52 hi0 hz0 hz1 hz2 rfl (by decide) v vs.length (vC vs) rfl (hown2.alloc _) ⟨w2.heap.size, 0, none⟩ 1 1 [.int .i64 (rN sk false 2 : Int), .int .u64 0, .string ⟨#[]⟩] rfl rfl (World.news_of_block (cs := #[.int .i64 (rN sk false 2 : Int), .int .u64 0, .string ⟨#[]⟩]) (t := 57) (fr := (0, 0)) (heap_alloc_new w2 _)) (by simp [Value.oneCell']) (by unfold maxLen; omega) (by omega) (by simp; omega) ?_)
              intro v3 w3 hown3 hgrow _ _
              have st := mscan_step HM.out.2.1 HM.out.2.2 H2.out.1 H2.out.2 hown3 hgrow
              have cb := st.1.c1
              have H3 := hid st
              clear hown3 hgrow hown2 st
              go_wp2
              go_ret2
              exact ⟨.slice none 0 0, by rw [HE.out.1]; rfl, by rw [HE.out.2]; exact World.ownsRow_nil _ _ _ _, H3.out.2.2⟩
            · have hbad : rB sk false 4 = true := by have := HN.out; simpa [nxOK, hcc, rB] using this
              have hcall : Calls Try.prog 38 #[.pointer (some ⟨w.heap.size, 0, none⟩), .int .i64 4] wr fun e w' => e = .returned (.int .i64 (rN sk false 4 : Int)) ∧ MrAt w' w.heap.size (rS sk false 4) (rB sk false 4) ∧ Kept w.heap.size none wr w' := mnum_any w.heap.size sk false 4 wr HM.out.1 (by decide) (by decide)
              rw [hbad] at hcall
              have HX := hid hcall
              have hci : (sh[k].toNat : Int) = 108 := by rw [hcc]; rfl
              clear hbad hcall hcc hskz
              go_wp2_with fail
              refine HX.out.mono ?_
              rintro e w2 ⟨rfl, hm2, hk2⟩
              have hown2 := mrow_kept HM.out.2.1 hk2
              have hs2 := hk2.size
              have hlw := HM.out.1.lt
              have H2 := hid (And.intro hm2 hk2)
              clear hm2 hk2
              go_wp2_with (at_builtin; refine wpList_append_own_at _ rfl _ _ 52 rfl (w.heap.size + 1) 57 i0 _ 3 32 Try.underlying52 hi0 hz0 hz1 hz2 rfl (by decide) v vs.length (vC vs) rfl (hown2.alloc _) ⟨w2.heap.size, 0, none⟩ 1 1 [.int .i64 (rN sk false 4 : Int), .int .u64 0, .string ⟨#[]⟩] rfl rfl (World.news_of_block (cs := #[.int .i64 (rN sk false 4 : Int), .int .u64 0, .string ⟨#[]⟩]) (t := 57) (fr := (0, 0)) (heap_alloc_new w2 _)) (by simp [Value.oneCell']) (by unfold maxLen; omega) (by omega) (by simp; omega) ?_)
              intro v3 w3 hown3 hgrow _ _
              have st := mscan_step HM.out.2.1 HM.out.2.2 H2.out.1 H2.out.2 hown3 hgrow
              have cb := st.1.c1
              have H3 := hid st
              clear hown3 hgrow hown2 st
              go_wp2
              go_ret2
              exact ⟨.slice none 0 0, by rw [HE.out.1]; rfl, by rw [HE.out.2]; exact World.ownsRow_nil _ _ _ _, H3.out.2.2⟩
            · have hbad : rB sk false 8 = true := by have := HN.out; simpa [nxOK, hcc, rB] using this
              have hcall : Calls Try.prog 39 #[.pointer (some ⟨w.heap.size, 0, none⟩), .int .i64 8] wr fun e w' => e = .returned (.int .u64 (rN sk false 8 : Int)) ∧ MrAt w' w.heap.size (rS sk false 8) (rB sk false 8) ∧ Kept w.heap.size none wr w' := mbits_any w.heap.size sk false 8 wr HM.out.1 (by decide)
              rw [hbad] at hcall
              have HX := hid hcall
              have hci : (sh[k].toNat : Int) = 113 := by rw [hcc]; rfl
              clear hbad hcall hcc hskz
              go_wp2_with fail
              refine HX.out.mono ?_
              rintro e w2 ⟨rfl, hm2, hk2⟩
              have hown2 := mrow_kept HM.out.2.1 hk2
              have hs2 := hk2.size
              have hlw := HM.out.1.lt
              have H2 := hid (And.intro hm2 hk2)
              clear hm2 hk2
              go_wp2_with (at_builtin; refine wpList_append_own_at _ rfl _ _ 52 rfl (w.heap.size + 1) 57 i0 _ 3 32 Try.underlying52 hi0 hz0 hz1 hz2 rfl (by decide) v vs.length (vC vs) rfl (hown2.alloc _) ⟨w2.heap.size, 0, none⟩ 1 1 [.int .i64 0, .int .u64 (rN sk false 8 : Int), .string ⟨#[]⟩] rfl rfl (World.news_of_block (cs := #[.int .i64 0, .int .u64 (rN sk false 8 : Int), .string ⟨#[]⟩]) (t := 57) (fr := (0, 0)) (heap_alloc_new w2 _)) (by simp [Value.oneCell']) (by unfold maxLen; omega) (by omega) (by simp; omega) ?_)
              intro v3 w3 hown3 hgrow _ _
              have st := mscan_step HM.out.2.1 HM.out.2.2 H2.out.1 H2.out.2 hown3 hgrow
              have cb := st.1.c1
              have H3 := hid st
              clear hown3 hgrow hown2 st
              go_wp2
              go_ret2
              exact ⟨.slice none 0 0, by rw [HE.out.1]; rfl, by rw [HE.out.2]; exact World.ownsRow_nil _ _ _ _, H3.out.2.2⟩
            · have hbad : tB sk false = true := by have := HN.out; simpa [nxOK, hcc, tB] using this
              have hcall : Calls Try.prog 40 #[.pointer (some ⟨w.heap.size, 0, none⟩)] wr fun e w' => e = .returned (.string (tT sk false)) ∧ MrAt w' w.heap.size (tS sk false) (tB sk false) ∧ Kept w.heap.size none wr w' := mtext_any w.heap.size sk false wr HM.out.1 hskz
              rw [hbad] at hcall
              have HX := hid hcall
              have hci : (sh[k].toNat : Int) = 116 := by rw [hcc]; rfl
              clear hbad hcall hcc hskz
              go_wp2_with fail
              refine HX.out.mono ?_
              rintro e w2 ⟨rfl, hm2, hk2⟩
              have hown2 := mrow_kept HM.out.2.1 hk2
              have hs2 := hk2.size
              have hlw := HM.out.1.lt
              have H2 := hid (And.intro hm2 hk2)
              clear hm2 hk2
              go_wp2_with (at_builtin; refine wpList_append_own_at _ rfl _ _ 52 rfl (w.heap.size + 1) 57 i0 _ 3 32 Try.underlying52 hi0 hz0 hz1 hz2 rfl (by decide) v vs.length (vC vs) rfl (hown2.alloc _) ⟨w2.heap.size, 0, none⟩ 1 1 [.int .i64 0, .int .u64 0, .string (tT sk false)] rfl rfl (World.news_of_block (cs := #[.int .i64 0, .int .u64 0, .string (tT sk false)]) (t := 57) (fr := (0, 0)) (heap_alloc_new w2 _)) (by simp [Value.oneCell']) (by unfold maxLen; omega) (by omega) (by simp; omega) ?_)
              intro v3 w3 hown3 hgrow _ _
              have st := mscan_step HM.out.2.1 HM.out.2.2 H2.out.1 H2.out.2 hown3 hgrow
              have cb := st.1.c1
              have H3 := hid st
              clear hown3 hgrow hown2 st
              go_wp2
              go_ret2
              exact ⟨.slice none 0 0, by rw [HE.out.1]; rfl, by rw [HE.out.2]; exact World.ownsRow_nil _ _ _ _, H3.out.2.2⟩
        · have HS2 : Hid (scn sh.data.toList t = some (vs, sk)) := by
            have := HS.out
            rw [List.take_of_length_le (by simp; have : sh.data.size = sh.size := rfl; omega)] at this
            exact this
          by_cases hsk : 0 < sk.size
          · have HE : Hid (scE sh t = 5 ∧ scV sh t = []) := by
              unfold Hid
              simp [scE, scV, HB.out, HS2.out, hsk]
            have HX := hid (mend_any w.heap.size sk false wr HM.out.1)
            rw [show endOf sk false = 5 by simp [endOf, hsk]] at HX
            go_wp2_with fail
            refine HX.out.mono ?_
            rintro e w2 ⟨rfl, rfl⟩
            go_wp2
            go_ret2
            exact ⟨.slice none 0 0, by rw [HE.out.1]; rfl, by rw [HE.out.2]; exact World.ownsRow_nil _ _ _ _, HM.out.2.2⟩
          · have HE : Hid (scE sh t = 0 ∧ scV sh t = vs) := by
              unfold Hid
              simp [scE, scV, HB.out, HS2.out, hsk]
            have HX := hid (mend_any w.heap.size sk false wr HM.out.1)
            rw [show endOf sk false = 0 by simp [endOf, hsk]] at HX
            go_wp2_with fail
            refine HX.out.mono ?_
            rintro e w2 ⟨rfl, rfl⟩
            go_wp2
            go_ret2
            exact ⟨v, by rw [HE.out.1]; rfl, by rw [HE.out.2]; exact mscan_base HM.out.2.1, HM.out.2.2⟩

end Go.Proofs.Ythhgpfcbhaoeiaa
