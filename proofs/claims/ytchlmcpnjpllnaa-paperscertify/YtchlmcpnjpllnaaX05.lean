/- Texts laid together: ShJ ShK ShQ GnA ShM ShN ShO. -/
import Derived.Test.YtchlmcpnjpllnaaX04
import Derived.Deep.RegionLaw
import Derived.Deep.RegionWith
import Derived.BigQuiet
import Derived.OrdersHeld
import Derived.ArgAppend
import Derived.Laws.IdiomCopy
/- A text goes into the digester: the walk. -/
namespace Go.Proofs.Ytchlmcpnjpllnaa
open Go.RowKit

def strLen : Value → Nat
  | .string s => s.size
  | _ => 0
theorem extract_drop (s : ByteArray) (c : Nat) : (s.extract c s.size).data.toList = s.data.toList.drop c := by
  rw [ByteArray.data_extract, Array.toList_extract]
  simp
  rw [List.take_of_length_le (by simp)]

theorem keepD {w w1 : World} {b : Nat} {L : List Value} {t : TypeId} (h : w1.heap[b]? = some (.cells L.toArray t (0, 0))) (k : Below b w w1) : w1.drew.heap[b]? = some (.cells L.toArray t (0, 0)) ∧ Below b w w1.drew := ⟨h, k.drew⟩
theorem keepD2 {w w1 w2 : World} {b : Nat} {L : List Value} {t : TypeId} (h : w1.heap[b]? = some (.cells L.toArray t (0, 0))) (k : Below b w w1) (hb : Below w1.heap.size w1 w2) : w2.heap[b]? = some (.cells L.toArray t (0, 0)) ∧ Below b w w2 :=
  have hl : b < w1.heap.size := (Array.getElem?_eq_some_iff.1 h).1
  ⟨(hb.block b hl).trans h, k.trans (hb.mono (Nat.le_of_lt hl))⟩

set_option maxRecDepth 100000 in
set_option maxHeartbeats 1600000 in
theorem add_any (b : Nat) (S : St) (B : List UInt8) (k : Nat) (d m : List UInt8) (t : ByteArray) (w : World) (h : Dig w b S B k d m) (hsz : m.length + t.size < 1152921504606846976) :
    Calls Try.prog 108 #[.pointer (some ⟨b, 0, none⟩), .string t] w fun e w' => e = .returned (.tuple #[]) ∧ (∃ S B k d, Dig w' b S B k d (m ++ t.data.toList)) ∧ Below b w w' := by
  obtain ⟨M, eM⟩ : ∃ M, M = m ++ t.data.toList := ⟨_, rfl⟩
  have hN : M.length = m.length + t.size := by rw [eM, List.length_append, data_len]
  have c73 := cell_at h.blk 73 _ (dg_total S B k m.length h.len)
  have f73 := free_at h.blk 73
  have hs0 : (0 : Int) ≤ (m.length : Int) := Int.natCast_nonneg _
  have hs1 : (m.length : Int) + (t.size : Int) < 18446744073709551616 := by omega
  have H0 := hid h
  have HM := hid (And.intro eM hN)
  have HZ := hid hsz
  rw [← eM]
  clear h eM hN hsz
  go_enter Try.func108, Try.ntmps108
  go_wp2
  go_loopw [1] (fun v wr => ∃ (s : ByteArray) (S : St) (B : List UInt8) (k : Nat) (d : List UInt8), v = .string s ∧ wr.heap[b]? = some (.cells (dgC S B k M.length).toArray 144 (0, 0)) ∧ B.length = 64 ∧ k < 64 ∧ S = hashB .start d ∧ (∃ q, d.length = 64 * q) ∧ (d ++ B.take k) ++ s.data.toList = M ∧ Below b w wr)
    (fun v _ => strLen v)
  case atStart =>
    refine ⟨t, S, B, k, d, rfl, ?_, H0.out.len, H0.out.lt, H0.out.st, H0.out.whole, by rw [H0.out.all, HM.out.1], Below.setCell (p := ⟨b, 73, none⟩) (Below.refl _ _) (Nat.le_refl _) _⟩
    refine (blk_set H0.out.blk _ _).trans ?_
    rw [arr_set, show ((m.length : Int) + (t.size : Int)) = ((M.length : Nat) : Int) by rw [HM.out.2]; omega, dg_set_total _ _ _ _ _ H0.out.len]
  case round =>
    clear H0 c73 f73 hs0 hs1 S B k d
    obtain ⟨s, S, B, k, d, rfl, hb, hB, hk, hS, hq, ha, hbel⟩ := hrel
    have H := hid (And.intro hb (And.intro hB (And.intro hS (And.intro hq (And.intro ha hbel)))))
    clear hb hB hS hq ha hbel
    by_cases hs : s.size = 0
    · have hs2 : ¬ ((0 : Int) < (s.size : Int)) := by omega
      have HS := hid hs
      clear hs
      go_wp2
      go_end0
      have e0 : s.data.toList = [] := List.eq_nil_of_length_eq_zero (by rw [data_len]; exact HS.out)
      have ha := H.out.2.2.2.2.1
      rw [e0, List.append_nil] at ha
      exact ⟨rfl, ⟨S, B, k, d, H.out.1, H.out.2.1, hk, H.out.2.2.1, H.out.2.2.2.1, ha⟩, H.out.2.2.2.2.2⟩
    · have hs2 : (0 : Int) < (s.size : Int) := by omega
      obtain ⟨xs, ex⟩ : ∃ xs, xs = s.data.toList.take (64 - k) := ⟨_, rfl⟩
      obtain ⟨c, ec⟩ : ∃ c, c = xs.length := ⟨_, rfl⟩
      have hc : c = min (64 - k) s.size := by rw [ec, ex, List.length_take, data_len]
      have hc1 : 0 < c := by omega
      have hkc : k + c ≤ 64 := by omega
      have hcs : (c : Int) ≤ (s.size : Int) := by omega
      have hc0 : (0 : Int) ≤ (c : Int) := Int.natCast_nonneg _
      have hk0 : (0 : Int) ≤ (k : Int) := Int.natCast_nonneg _
      have hk64 : (k : Int) ≤ 64 := by omega
      have hkn : ¬ (64 = k) := by omega
      have c72 := cell_at H.out.1 72 _ (dg_used S B k M.length H.out.2.1)
      have HX := hid (And.intro ex (And.intro ec (And.intro hc (And.intro hc1 hkc))))
      clear ex ec hc hc1 hkc hs
      go_wp2
      go_region_law (refine step_of rfl (owp_copy_prefix _ _ 57 9 rfl b (8 + k) (64 - k) (64 - k) rfl s rfl 5 (dgC S B k M.length) (bC xs) 144 Try.underlying57 Try.size5 H.out.1 (by rw [HX.out.1]; rfl) (by rw [bC_len, dg_len _ _ _ _ H.out.2.1, ← HX.out.2.1]; have := HX.out.2.2.2.2; omega) ?_); intro w4 h4 e4)
      rw [show (bC xs).length = c by rw [bC_len, ← HX.out.2.1]]
      obtain ⟨B2, eB2⟩ : ∃ B2, B2 = splice B k xs := ⟨_, rfl⟩
      have hxl : k + xs.length ≤ 64 := by rw [← HX.out.2.1]; exact HX.out.2.2.2.2
      have hl2 : B2.length = 64 := by rw [eB2, length_splice _ _ _ (by rw [H.out.2.1]; exact hxl), H.out.2.1]
      have hb4 : w4.heap[b]? = some (.cells (dgC S B2 k M.length).toArray 144 (0, 0)) := by
        rw [eB2, ← dg_copy _ _ _ _ _ _ H.out.2.1 hxl]
        exact h4.out
      have ht2 : B2.take (k + c) = B.take k ++ xs := by
        rw [eB2, HX.out.2.1]
        exact splice_take B xs k (by rw [H.out.2.1]; exact hxl)
      have hbel : Below b w w4 := by
        rw [e4.out]
        exact Below.setRow H.out.2.2.2.2.2.drew (Nat.le_refl _) _
      have hrest : xs ++ (s.extract c s.size).data.toList = s.data.toList := by
        rw [extract_drop]
        by_cases hcz : 64 - k ≤ s.size
        · have : c = 64 - k := by have := HX.out.2.2.1; omega
          rw [this, HX.out.1, List.take_append_drop]
        · have : c = s.size := by have := HX.out.2.2.1; omega
          rw [this, ← data_len, List.drop_length, List.append_nil, HX.out.1]
          exact List.take_of_length_le (by rw [data_len]; omega)
      have d72 := cell_at hb4 72 _ (dg_used S B2 k M.length hl2)
      have g72 := free_at hb4 72
      have H4 := hid (And.intro hb4 (And.intro hl2 (And.intro ht2 (And.intro hbel hrest))))
      clear hb4 hl2 ht2 hbel hrest hxl eB2 h4 e4 c72
      by_cases hf : k + c = 64
      · have hff : (k : Int) + (c : Int) = 64 := by omega
        have HF := hid hf
        clear hf
        go_wp2
        generalize hw5 : w4.setCell ⟨b, 72, none⟩ (.int .i64 64) = w5
        have hb5 : w5.heap[b]? = some (.cells (dgC S B2 64 M.length).toArray 144 (0, 0)) := by
          rw [← hw5]
          refine (blk_set H4.out.1 _ _).trans ?_
          rw [arr_set, show (64 : Int) = ((64 : Nat) : Int) from rfl, dg_set_used _ _ _ _ _ H4.out.2.1]
        have hbel5 : Below b w w5 := by rw [← hw5]; exact H4.out.2.2.2.1.setCell (p := ⟨b, 72, none⟩) (Nat.le_refl _) _
        have H5 := hid (And.intro hb5 hbel5)
        clear hb5 hbel5 hw5
        refine wp_region_any (by kernel_rfl) ?_
        try (change wpAny _ _ _ _ _ _ _ (World.drew _))
        have HD := hid (keepD H5.out.1 H5.out.2)
        obtain ⟨W2, eW2⟩ : ∃ x, x = sched B2 := ⟨_, rfl⟩
        obtain ⟨S2, eS2⟩ : ∃ x, x = behindW S W2 := ⟨_, rfl⟩
        have HC9 : Hid (∀ w, Calls Try.prog 113 #[.agg (bC B2).toArray] w fun e w' => e = .returned (.agg (uC W2).toArray) ∧ Below w.heap.size w w') := hid (by rw [eW2]; exact schedule_any B2 H4.out.2.1)
        have HC10 : Hid (∀ w, Calls Try.prog 112 #[.agg (uC S.list).toArray, .agg (uC W2).toArray] w fun e w' => e = .returned (.agg (uC S2.list).toArray) ∧ Below w.heap.size w w') := hid (by rw [eS2]; exact behind_any S W2 (by rw [eW2, sched_len B2 H4.out.2.1]))
        have HS2 : Hid (S2 = hashB .start (d ++ B2)) := hid (by
          obtain ⟨q, hq⟩ := H.out.2.2.2.1
          rw [hashB_app _ _ _ q hq, ← H.out.2.2.1, ← List.append_nil B2, hashB_cons _ _ _ H4.out.2.1, hashB_short _ _ (by decide), eS2, eW2, step])
        have HA2 : Hid ((d ++ B2 ++ B2.take 0) ++ (s.extract c s.size).data.toList = M) := hid (by
          have e2 : B2 = B.take k ++ xs := by
            rw [← H4.out.2.2.1, HF.out]
            exact (List.take_of_length_le (by rw [H4.out.2.1]; exact Nat.le_refl _)).symm
          rw [List.take_zero, List.append_nil, ← H.out.2.2.2.2.1, e2, List.append_assoc, List.append_assoc, H4.out.2.2.2.2, List.append_assoc])
        clear eW2 eS2
        refine wpAny_take (i := 0) (oi := { dst := some 44, op := .move (.tmp 0), type := 148, pos := "sha.go:80", after := #[], guard := none }) (v := .pointer (some ⟨b, 0, none⟩)) rfl (by kernel_rfl) (by kernel_rfl) (by kernel_rfl) (fun _ _ _ h => h) (Or.inl ⟨by rfl, ?_⟩) ?_
        · intro w; go_simp
        refine wpAny_take (i := 1) (oi := { dst := some 45, op := .move (.tmp 0), type := 148, pos := "sha.go:80", after := #[], guard := none }) (v := .pointer (some ⟨b, 0, none⟩)) rfl (by kernel_rfl) (by kernel_rfl) (by kernel_rfl) (fun _ _ _ h => h) (Or.inl ⟨by rfl, ?_⟩) ?_
        · intro w; go_simp
        refine wpAny_take (i := 2) (oi := { dst := some 46, op := .nilCheck (.tmp 45), type := 0, pos := "sha.go:80", after := #[{ on := 1, ground := .data }], guard := none }) (v := .pointer (some ⟨b, 0, none⟩)) rfl (by kernel_rfl) (by kernel_rfl) (by kernel_rfl) (fun _ _ _ h => h) (Or.inl ⟨by rfl, ?_⟩) ?_
        · intro w; go_simp
        refine wpAny_take (i := 3) (oi := { dst := some 47, op := .fieldAddr 144 (.tmp 46) 0, type := 0, pos := "sha.go:80", after := #[{ on := 2, ground := .data }], guard := none }) (v := .pointer (some ⟨b, 0, none⟩)) rfl (by kernel_rfl) (by kernel_rfl) (by kernel_rfl) (fun _ _ _ h => h) (Or.inl ⟨by rfl, ?_⟩) ?_
        · intro w; go_simp
        refine wpAny_take (i := 5) (oi := { dst := some 49, op := .move (.tmp 0), type := 148, pos := "sha.go:80", after := #[], guard := none }) (v := .pointer (some ⟨b, 0, none⟩)) rfl (by kernel_rfl) (by kernel_rfl) (by kernel_rfl) (fun _ _ _ h => h) (Or.inl ⟨by rfl, ?_⟩) ?_
        · intro w; go_simp
        refine wpAny_take (i := 6) (oi := { dst := some 50, op := .nilCheck (.tmp 49), type := 0, pos := "sha.go:80", after := #[{ on := 5, ground := .data }], guard := none }) (v := .pointer (some ⟨b, 0, none⟩)) rfl (by kernel_rfl) (by kernel_rfl) (by kernel_rfl) (fun _ _ _ h => h) (Or.inl ⟨by rfl, ?_⟩) ?_
        · intro w; go_simp
        refine wpAny_take (i := 7) (oi := { dst := some 51, op := .fieldAddr 144 (.tmp 50) 1, type := 0, pos := "sha.go:80", after := #[{ on := 6, ground := .data }], guard := none }) (v := .pointer (some ⟨b, 8, none⟩)) rfl (by kernel_rfl) (by kernel_rfl) (by kernel_rfl) (fun _ _ _ h => h) (Or.inl ⟨by rfl, ?_⟩) ?_
        · intro w; go_simp
        go_simp
        refine wpAny_ready (rs := [4, 8]) (by kernel_rfl) (by simp) ?_
        refine AllReady.cons (o := { dst := some 48, op := .load 140 (.tmp 47), type := 140, pos := "sha.go:80", after := #[{ on := 3, ground := .data }], guard := none }) rfl (fun K hK => ?_) ?_
        · refine step_of rfl ?_
          refine (owp_load_row 140 _ rfl b 0 rfl (uC S.list) _ Try.underlying140 rfl 8 (by rw [uC_len]; exact list_len S) Try.size140 (fun j v hv => cell_at HD.out.1 _ _ (dg_state S B2 64 M.length j v hv)) (hK _ _ ?_))
          clear hK K
          go_simp
          refine wpAny_ready (rs := [8]) (by kernel_rfl) (by simp) ?_
          refine AllReady.cons (o := { dst := some 52, op := .load 142 (.tmp 51), type := 142, pos := "sha.go:80", after := #[{ on := 7, ground := .data }], guard := none }) rfl (fun K hK => ?_) ?_
          · refine step_of rfl ?_
            refine (owp_load_row 142 _ rfl b 8 rfl (bC B2) _ Try.underlying142 rfl 64 (by rw [bC_len]; exact H4.out.2.1) Try.size142 (fun j v hv => cell_at HD.out.1 _ _ (dg_block S B2 64 M.length j v hv)) (hK _ _ ?_))
            clear hK K
            go_simp
            refine wpAny_ready (rs := [9]) (by kernel_rfl) (by simp) ?_
            refine AllReady.cons (o := { dst := some 53, op := .call { callee := .value (.func 113), args := #[.tmp 52], argTypes := #[142] }, type := 150, pos := "sha.go:80", after := #[{ on := 8, ground := .data }], guard := none }) rfl (fun K hK => ?_) ?_
            · refine step_of rfl ?_
              go_simp
              refine (HC9.out _).mono ?_
              rintro e w6 ⟨rfl, hb6⟩
              have H6 := hid (keepD2 HD.out.1 HD.out.2 hb6)
              clear hb6
              refine hK _ _ ?_
              clear hK K
              refine wpAny_ready (rs := [10]) (by kernel_rfl) (by simp) ?_
              refine AllReady.cons (o := { dst := some 54, op := .call { callee := .value (.func 112), args := #[.tmp 48, .tmp 53], argTypes := #[140, 150] }, type := 140, pos := "sha.go:80", after := #[{ on := 4, ground := .data }, { on := 9, ground := .data }, { on := 9, ground := .chain }], guard := none }) rfl (fun K hK => ?_) ?_
              · refine step_of rfl ?_
                go_simp
                refine (HC10.out _).mono ?_
                rintro e w7 ⟨rfl, hb7⟩
                have H7 := hid (keepD2 H6.out.1 H6.out.2 hb7)
                clear hb7
                refine hK _ _ ?_
                clear hK K
                refine wpAny_take (i := 11) (oi := { dst := some 55, op := .nilCheck (.tmp 44), type := 0, pos := "sha.go:80", after := #[{ on := 0, ground := .data }, { on := 0, ground := .phase }, { on := 1, ground := .phase }, { on := 2, ground := .phase }, { on := 3, ground := .phase }, { on := 4, ground := .phase }, { on := 5, ground := .phase }, { on := 6, ground := .phase }, { on := 7, ground := .phase }, { on := 8, ground := .phase }, { on := 9, ground := .phase }, { on := 10, ground := .phase }], guard := none }) (v := .pointer (some ⟨b, 0, none⟩)) rfl (by kernel_rfl) (by kernel_rfl) (by kernel_rfl) (fun _ _ _ h => h) (Or.inl ⟨by rfl, ?_⟩) ?_
                · intro w; go_simp
                refine wpAny_take (i := 12) (oi := { dst := some 56, op := .fieldAddr 144 (.tmp 55) 0, type := 0, pos := "sha.go:80", after := #[{ on := 11, ground := .data }, { on := 0, ground := .phase }, { on := 1, ground := .phase }, { on := 2, ground := .phase }, { on := 3, ground := .phase }, { on := 4, ground := .phase }, { on := 5, ground := .phase }, { on := 6, ground := .phase }, { on := 7, ground := .phase }, { on := 8, ground := .phase }, { on := 9, ground := .phase }, { on := 10, ground := .phase }], guard := none }) (v := .pointer (some ⟨b, 0, none⟩)) rfl (by kernel_rfl) (by kernel_rfl) (by kernel_rfl) (fun _ _ _ h => h) (Or.inl ⟨by rfl, ?_⟩) ?_
                · intro w; go_simp
                go_simp
                refine wpAny_ready (rs := [13]) (by kernel_rfl) (by simp) ?_
                refine AllReady.cons (o := { dst := none, op := .store 140 (.tmp 56) (.tmp 54), type := 0, pos := "sha.go:80", after := #[{ on := 12, ground := .data }, { on := 10, ground := .data }, { on := 10, ground := .chain }, { on := 0, ground := .phase }, { on := 1, ground := .phase }, { on := 2, ground := .phase }, { on := 3, ground := .phase }, { on := 4, ground := .phase }, { on := 5, ground := .phase }, { on := 6, ground := .phase }, { on := 7, ground := .phase }, { on := 8, ground := .phase }, { on := 9, ground := .phase }, { on := 10, ground := .phase }], guard := none }) rfl (fun K hK => ?_) ?_
                · refine step_of rfl ?_
                  refine owp_store_row 140 _ _ rfl b 0 rfl 144 (dgC S B2 64 M.length) (uC S2.list) rfl H7.out.1 8 (by rw [uC_len]; exact list_len S2) Try.size140 (by rw [dg_len _ _ _ _ H4.out.2.1]; decide) (uC_one _) ?_
                  intro w8 h8 e8
                  refine hK _ _ ?_
                  clear hK K
                  have hb8 : w8.heap[b]? = some (.cells (dgC S2 B2 64 M.length).toArray 144 (0, 0)) := by
                    rw [← dg_put S S2]; exact h8.out
                  have hl8 : Below b w w8 := by rw [e8.out]; exact Below.setRow H7.out.2 (Nat.le_refl _) _
                  have z8 := cell_at hb8 72 _ (dg_used S2 B2 64 M.length H4.out.2.1)
                  have y8 := free_at hb8 72
                  have H8 := hid (And.intro hb8 hl8)
                  clear hb8 hl8 h8 e8
                  refine wpAny_done (by kernel_rfl) ?_ _
                  go_simp
                  go_wp2
                  go_roundw
                  case rel =>
                    refine ⟨s.extract c s.size, S2, B2, 0, d ++ B2, rfl, ?_, H4.out.2.1, by omega, ?_, ?_, ?_, H8.out.2.setCell (p := ⟨b, 72, none⟩) (Nat.le_refl _) _⟩
                    · refine (blk_set H8.out.1 _ _).trans ?_
                      rw [arr_set, show (0 : Int) = ((0 : Nat) : Int) from rfl, dg_set_used _ _ _ _ _ H4.out.2.1]
                    · exact HS2.out
                    · obtain ⟨q, hq⟩ := H.out.2.2.2.1
                      exact ⟨q + 1, by rw [List.length_append, hq, H4.out.2.1]; omega⟩
                    · exact HA2.out
                  case measure =>
                    have := HX.out.2.2.2.1
                    simp [strLen]
                    omega
                exact AllReady.nil
              exact AllReady.nil
            exact AllReady.nil
          exact AllReady.nil
        refine AllReady.cons (o := { dst := some 52, op := .load 142 (.tmp 51), type := 142, pos := "sha.go:80", after := #[{ on := 7, ground := .data }], guard := none }) rfl (fun K hK => ?_) ?_
        · refine step_of rfl ?_
          refine (owp_load_row 142 _ rfl b 8 rfl (bC B2) _ Try.underlying142 rfl 64 (by rw [bC_len]; exact H4.out.2.1) Try.size142 (fun j v hv => cell_at HD.out.1 _ _ (dg_block S B2 64 M.length j v hv)) (hK _ _ ?_))
          clear hK K
          go_simp
          refine wpAny_ready (rs := [4, 9]) (by kernel_rfl) (by simp) ?_
          refine AllReady.cons (o := { dst := some 48, op := .load 140 (.tmp 47), type := 140, pos := "sha.go:80", after := #[{ on := 3, ground := .data }], guard := none }) rfl (fun K hK => ?_) ?_
          · refine step_of rfl ?_
            refine (owp_load_row 140 _ rfl b 0 rfl (uC S.list) _ Try.underlying140 rfl 8 (by rw [uC_len]; exact list_len S) Try.size140 (fun j v hv => cell_at HD.out.1 _ _ (dg_state S B2 64 M.length j v hv)) (hK _ _ ?_))
            clear hK K
            go_simp
            refine wpAny_ready (rs := [9]) (by kernel_rfl) (by simp) ?_
            refine AllReady.cons (o := { dst := some 53, op := .call { callee := .value (.func 113), args := #[.tmp 52], argTypes := #[142] }, type := 150, pos := "sha.go:80", after := #[{ on := 8, ground := .data }], guard := none }) rfl (fun K hK => ?_) ?_
            · refine step_of rfl ?_
              go_simp
              refine (HC9.out _).mono ?_
              rintro e w6 ⟨rfl, hb6⟩
              have H6 := hid (keepD2 HD.out.1 HD.out.2 hb6)
              clear hb6
              refine hK _ _ ?_
              clear hK K
              refine wpAny_ready (rs := [10]) (by kernel_rfl) (by simp) ?_
              refine AllReady.cons (o := { dst := some 54, op := .call { callee := .value (.func 112), args := #[.tmp 48, .tmp 53], argTypes := #[140, 150] }, type := 140, pos := "sha.go:80", after := #[{ on := 4, ground := .data }, { on := 9, ground := .data }, { on := 9, ground := .chain }], guard := none }) rfl (fun K hK => ?_) ?_
              · refine step_of rfl ?_
                go_simp
                refine (HC10.out _).mono ?_
                rintro e w7 ⟨rfl, hb7⟩
                have H7 := hid (keepD2 H6.out.1 H6.out.2 hb7)
                clear hb7
                refine hK _ _ ?_
                clear hK K
                refine wpAny_take (i := 11) (oi := { dst := some 55, op := .nilCheck (.tmp 44), type := 0, pos := "sha.go:80", after := #[{ on := 0, ground := .data }, { on := 0, ground := .phase }, { on := 1, ground := .phase }, { on := 2, ground := .phase }, { on := 3, ground := .phase }, { on := 4, ground := .phase }, { on := 5, ground := .phase }, { on := 6, ground := .phase }, { on := 7, ground := .phase }, { on := 8, ground := .phase }, { on := 9, ground := .phase }, { on := 10, ground := .phase }], guard := none }) (v := .pointer (some ⟨b, 0, none⟩)) rfl (by kernel_rfl) (by kernel_rfl) (by kernel_rfl) (fun _ _ _ h => h) (Or.inl ⟨by rfl, ?_⟩) ?_
                · intro w; go_simp
                refine wpAny_take (i := 12) (oi := { dst := some 56, op := .fieldAddr 144 (.tmp 55) 0, type := 0, pos := "sha.go:80", after := #[{ on := 11, ground := .data }, { on := 0, ground := .phase }, { on := 1, ground := .phase }, { on := 2, ground := .phase }, { on := 3, ground := .phase }, { on := 4, ground := .phase }, { on := 5, ground := .phase }, { on := 6, ground := .phase }, { on := 7, ground := .phase }, { on := 8, ground := .phase }, { on := 9, ground := .phase }, { on := 10, ground := .phase }], guard := none }) (v := .pointer (some ⟨b, 0, none⟩)) rfl (by kernel_rfl) (by kernel_rfl) (by kernel_rfl) (fun _ _ _ h => h) (Or.inl ⟨by rfl, ?_⟩) ?_
                · intro w; go_simp
                go_simp
                refine wpAny_ready (rs := [13]) (by kernel_rfl) (by simp) ?_
                refine AllReady.cons (o := { dst := none, op := .store 140 (.tmp 56) (.tmp 54), type := 0, pos := "sha.go:80", after := #[{ on := 12, ground := .data }, { on := 10, ground := .data }, { on := 10, ground := .chain }, { on := 0, ground := .phase }, { on := 1, ground := .phase }, { on := 2, ground := .phase }, { on := 3, ground := .phase }, { on := 4, ground := .phase }, { on := 5, ground := .phase }, { on := 6, ground := .phase }, { on := 7, ground := .phase }, { on := 8, ground := .phase }, { on := 9, ground := .phase }, { on := 10, ground := .phase }], guard := none }) rfl (fun K hK => ?_) ?_
                · refine step_of rfl ?_
                  refine owp_store_row 140 _ _ rfl b 0 rfl 144 (dgC S B2 64 M.length) (uC S2.list) rfl H7.out.1 8 (by rw [uC_len]; exact list_len S2) Try.size140 (by rw [dg_len _ _ _ _ H4.out.2.1]; decide) (uC_one _) ?_
                  intro w8 h8 e8
                  refine hK _ _ ?_
                  clear hK K
                  have hb8 : w8.heap[b]? = some (.cells (dgC S2 B2 64 M.length).toArray 144 (0, 0)) := by
                    rw [← dg_put S S2]; exact h8.out
                  have hl8 : Below b w w8 := by rw [e8.out]; exact Below.setRow H7.out.2 (Nat.le_refl _) _
                  have z8 := cell_at hb8 72 _ (dg_used S2 B2 64 M.length H4.out.2.1)
                  have y8 := free_at hb8 72
                  have H8 := hid (And.intro hb8 hl8)
                  clear hb8 hl8 h8 e8
                  refine wpAny_done (by kernel_rfl) ?_ _
                  go_simp
                  go_wp2
                  go_roundw
                  case rel =>
                    refine ⟨s.extract c s.size, S2, B2, 0, d ++ B2, rfl, ?_, H4.out.2.1, by omega, ?_, ?_, ?_, H8.out.2.setCell (p := ⟨b, 72, none⟩) (Nat.le_refl _) _⟩
                    · refine (blk_set H8.out.1 _ _).trans ?_
                      rw [arr_set, show (0 : Int) = ((0 : Nat) : Int) from rfl, dg_set_used _ _ _ _ _ H4.out.2.1]
                    · exact HS2.out
                    · obtain ⟨q, hq⟩ := H.out.2.2.2.1
                      exact ⟨q + 1, by rw [List.length_append, hq, H4.out.2.1]; omega⟩
                    · exact HA2.out
                  case measure =>
                    have := HX.out.2.2.2.1
                    simp [strLen]
                    omega
                exact AllReady.nil
              exact AllReady.nil
            exact AllReady.nil
          refine AllReady.cons (o := { dst := some 53, op := .call { callee := .value (.func 113), args := #[.tmp 52], argTypes := #[142] }, type := 150, pos := "sha.go:80", after := #[{ on := 8, ground := .data }], guard := none }) rfl (fun K hK => ?_) ?_
          · refine step_of rfl ?_
            go_simp
            refine (HC9.out _).mono ?_
            rintro e w6 ⟨rfl, hb6⟩
            have H6 := hid (keepD2 HD.out.1 HD.out.2 hb6)
            clear hb6
            refine hK _ _ ?_
            clear hK K
            refine wpAny_ready (rs := [4]) (by kernel_rfl) (by simp) ?_
            refine AllReady.cons (o := { dst := some 48, op := .load 140 (.tmp 47), type := 140, pos := "sha.go:80", after := #[{ on := 3, ground := .data }], guard := none }) rfl (fun K hK => ?_) ?_
            · refine step_of rfl ?_
              refine (owp_load_row 140 _ rfl b 0 rfl (uC S.list) _ Try.underlying140 rfl 8 (by rw [uC_len]; exact list_len S) Try.size140 (fun j v hv => cell_at H6.out.1 _ _ (dg_state S B2 64 M.length j v hv)) (hK _ _ ?_))
              clear hK K
              go_simp
              refine wpAny_ready (rs := [10]) (by kernel_rfl) (by simp) ?_
              refine AllReady.cons (o := { dst := some 54, op := .call { callee := .value (.func 112), args := #[.tmp 48, .tmp 53], argTypes := #[140, 150] }, type := 140, pos := "sha.go:80", after := #[{ on := 4, ground := .data }, { on := 9, ground := .data }, { on := 9, ground := .chain }], guard := none }) rfl (fun K hK => ?_) ?_
              · refine step_of rfl ?_
                go_simp
                refine (HC10.out _).mono ?_
                rintro e w7 ⟨rfl, hb7⟩
                have H7 := hid (keepD2 H6.out.1 H6.out.2 hb7)
                clear hb7
                refine hK _ _ ?_
                clear hK K
                refine wpAny_take (i := 11) (oi := { dst := some 55, op := .nilCheck (.tmp 44), type := 0, pos := "sha.go:80", after := #[{ on := 0, ground := .data }, { on := 0, ground := .phase }, { on := 1, ground := .phase }, { on := 2, ground := .phase }, { on := 3, ground := .phase }, { on := 4, ground := .phase }, { on := 5, ground := .phase }, { on := 6, ground := .phase }, { on := 7, ground := .phase }, { on := 8, ground := .phase }, { on := 9, ground := .phase }, { on := 10, ground := .phase }], guard := none }) (v := .pointer (some ⟨b, 0, none⟩)) rfl (by kernel_rfl) (by kernel_rfl) (by kernel_rfl) (fun _ _ _ h => h) (Or.inl ⟨by rfl, ?_⟩) ?_
                · intro w; go_simp
                refine wpAny_take (i := 12) (oi := { dst := some 56, op := .fieldAddr 144 (.tmp 55) 0, type := 0, pos := "sha.go:80", after := #[{ on := 11, ground := .data }, { on := 0, ground := .phase }, { on := 1, ground := .phase }, { on := 2, ground := .phase }, { on := 3, ground := .phase }, { on := 4, ground := .phase }, { on := 5, ground := .phase }, { on := 6, ground := .phase }, { on := 7, ground := .phase }, { on := 8, ground := .phase }, { on := 9, ground := .phase }, { on := 10, ground := .phase }], guard := none }) (v := .pointer (some ⟨b, 0, none⟩)) rfl (by kernel_rfl) (by kernel_rfl) (by kernel_rfl) (fun _ _ _ h => h) (Or.inl ⟨by rfl, ?_⟩) ?_
                · intro w; go_simp
                go_simp
                refine wpAny_ready (rs := [13]) (by kernel_rfl) (by simp) ?_
                refine AllReady.cons (o := { dst := none, op := .store 140 (.tmp 56) (.tmp 54), type := 0, pos := "sha.go:80", after := #[{ on := 12, ground := .data }, { on := 10, ground := .data }, { on := 10, ground := .chain }, { on := 0, ground := .phase }, { on := 1, ground := .phase }, { on := 2, ground := .phase }, { on := 3, ground := .phase }, { on := 4, ground := .phase }, { on := 5, ground := .phase }, { on := 6, ground := .phase }, { on := 7, ground := .phase }, { on := 8, ground := .phase }, { on := 9, ground := .phase }, { on := 10, ground := .phase }], guard := none }) rfl (fun K hK => ?_) ?_
                · refine step_of rfl ?_
                  refine owp_store_row 140 _ _ rfl b 0 rfl 144 (dgC S B2 64 M.length) (uC S2.list) rfl H7.out.1 8 (by rw [uC_len]; exact list_len S2) Try.size140 (by rw [dg_len _ _ _ _ H4.out.2.1]; decide) (uC_one _) ?_
                  intro w8 h8 e8
                  refine hK _ _ ?_
                  clear hK K
                  have hb8 : w8.heap[b]? = some (.cells (dgC S2 B2 64 M.length).toArray 144 (0, 0)) := by
                    rw [← dg_put S S2]; exact h8.out
                  have hl8 : Below b w w8 := by rw [e8.out]; exact Below.setRow H7.out.2 (Nat.le_refl _) _
                  have z8 := cell_at hb8 72 _ (dg_used S2 B2 64 M.length H4.out.2.1)
                  have y8 := free_at hb8 72
                  have H8 := hid (And.intro hb8 hl8)
                  clear hb8 hl8 h8 e8
                  refine wpAny_done (by kernel_rfl) ?_ _
                  go_simp
                  go_wp2
                  go_roundw
                  case rel =>
                    refine ⟨s.extract c s.size, S2, B2, 0, d ++ B2, rfl, ?_, H4.out.2.1, by omega, ?_, ?_, ?_, H8.out.2.setCell (p := ⟨b, 72, none⟩) (Nat.le_refl _) _⟩
                    · refine (blk_set H8.out.1 _ _).trans ?_
                      rw [arr_set, show (0 : Int) = ((0 : Nat) : Int) from rfl, dg_set_used _ _ _ _ _ H4.out.2.1]
                    · exact HS2.out
                    · obtain ⟨q, hq⟩ := H.out.2.2.2.1
                      exact ⟨q + 1, by rw [List.length_append, hq, H4.out.2.1]; omega⟩
                    · exact HA2.out
                  case measure =>
                    have := HX.out.2.2.2.1
                    simp [strLen]
                    omega
                exact AllReady.nil
              exact AllReady.nil
            exact AllReady.nil
          exact AllReady.nil
        exact AllReady.nil
      · have hff : ¬ ((k : Int) + (c : Int) = 64) := by omega
        have hfl : (k : Int) + (c : Int) < 64 := by have := HX.out.2.2.2.2; omega
        have HF := hid hf
        clear hf
        go_wp2
        go_roundw
        case rel =>
          refine ⟨s.extract c s.size, S, B2, k + c, d, rfl, ?_, H4.out.2.1, by have := HX.out.2.2.2.2; have := HF.out; omega, H.out.2.2.1, H.out.2.2.2.1, ?_, H4.out.2.2.2.1.setCell (p := ⟨b, 72, none⟩) (Nat.le_refl _) _⟩
          · refine (blk_set H4.out.1 _ _).trans ?_
            rw [arr_set, show ((k : Int) + (c : Int)) = ((k + c : Nat) : Int) by omega, dg_set_used _ _ _ _ _ H4.out.2.1]
          · rw [H4.out.2.2.1, ← H.out.2.2.2.2.1, List.append_assoc, List.append_assoc, H4.out.2.2.2.2, List.append_assoc]
        case measure =>
          have := HX.out.2.2.2.1
          simp [strLen]
          omega
end Go.Proofs.Ytchlmcpnjpllnaa

/- Sum, Pad and Part. -/
namespace Go.Proofs.Ytchlmcpnjpllnaa
open Go.RowKit

def z64B : List UInt8 := List.replicate 64 0
def D0 : List Value := dgC .start z64B 0 0
def DZ : List Value := dgC ⟨0, 0, 0, 0, 0, 0, 0, 0⟩ z64B 0 0
theorem z64B_len : z64B.length = 64 := by rw [z64B, List.length_replicate]
theorem D0_len : D0.length = 74 := dg_len _ _ _ _ z64B_len
theorem DZ_len : DZ.length = 74 := dg_len _ _ _ _ z64B_len
theorem Try.info144 : (Try.prog.info? 144).map (fun i => (i.zero, i.size)) = some (some (.agg DZ.toArray), 74) := by kernel_rfl
theorem Try.size144 : (Try.prog.info? 144).map (·.size) = some 74 := (zero_of_info Try.info144).2
theorem hC_eq : hC = (uC St.start.list).toArray := rfl
theorem dg_one (S : St) (B : List UInt8) (k n : Nat) : ∀ v ∈ dgC S B k n, v.oneCell' = true := by
  intro v hv
  simp only [dgC, List.mem_append] at hv
  rcases hv with h | h | h
  · exact uC_one _ v h
  · exact bC_one _ v h
  · simp at h
    rcases h with rfl | rfl <;> rfl
/-- The bytes of texts, one behind the other. -/
def joinB (ss : List ByteArray) : List UInt8 := ss.flatMap fun s => s.data.toList
theorem joinB_snoc (ss : List ByteArray) (j : Nat) (s : ByteArray) (h : ss[j]? = some s) : joinB (ss.take (j + 1)) = joinB (ss.take j) ++ s.data.toList := by
  rw [joinB, List.take_add_one, h, List.flatMap_append]
  simp [joinB]
theorem joinB_le (ss : List ByteArray) (j : Nat) : (joinB (ss.take j)).length ≤ (joinB ss).length := by
  have : joinB ss = joinB (ss.take j) ++ joinB (ss.drop j) := by
    rw [joinB, joinB, joinB, ← List.flatMap_append, List.take_append_drop]
  rw [this, List.length_append]
  omega

theorem Dig.final {w : World} {b : Nat} {S : St} {B : List UInt8} {k : Nat} {d m : List UInt8} (h : Dig w b S B k d m) (hm : m.length % 64 = 0) : S = hashB .start m := by
  have e := h.all
  obtain ⟨q, hq⟩ := h.whole
  have hl : m.length = 64 * q + k := by
    rw [← e, List.length_append, hq, List.length_take, h.len, Nat.min_eq_left (Nat.le_of_lt h.lt)]
  have hk : k = 0 := by have := h.lt; omega
  rw [hk, List.take_zero, List.append_nil] at e
  rw [h.st, e]
theorem Dig.keep {w w1 : World} {b : Nat} {S : St} {B : List UInt8} {k : Nat} {d m : List UInt8} (h : Dig w b S B k d m) (hb : Below w.heap.size w w1) : Dig w1 b S B k d m :=
  ⟨(hb.block b (lt_of_blk h.blk)).trans h.blk, h.len, h.lt, h.st, h.whole, h.all⟩
theorem data_pad (n : Nat) : (⟨(padB n).toArray⟩ : ByteArray).size = 9 + zerosN n := by
  show (padB n).toArray.size = _
  rw [List.size_toArray, padB_len]
theorem zerosN_lt (n : Nat) : zerosN n < 64 := by unfold zerosN; omega
theorem pad_mod (l : List UInt8) : (l ++ padB l.length).length % 64 = 0 := by
  rw [List.length_append, padB_len]
  unfold zerosN
  omega

set_option maxRecDepth 100000 in
set_option maxHeartbeats 1600000 in
theorem ssum_any (g cap : Nat) (ss : List ByteArray) (w : World) (hg : g < w.heap.size) (hc : ∀ j s, ss[j]? = some s → w.cell? ⟨g, j, none⟩ = some (.string s)) (hsz : (joinB ss).length < 1152921504606840000) (hcap : ss.length ≤ 9223372036854775807) :
    Calls Try.prog 99 #[.slice (some ⟨g, 0, none⟩) ss.length cap] w fun e w' => e = .returned (.string ⟨(shaB (joinB ss)).toArray⟩) ∧ Below w.heap.size w w' := by
  obtain ⟨n, en⟩ : ∃ n, n = ss.length := ⟨_, rfl⟩
  rw [← en]
  have HC := hid (And.intro hg (And.intro hc (And.intro hsz (And.intro en (en ▸ hcap)))))
  clear hg hc hsz en hcap
  go_enter Try.func99, Try.ntmps99
  go_wp2_with (first
    | (go_at_call 107; refine (start_any _).mono ?_; rintro e w1 ⟨rfl, hb1⟩; have HB1 := hid hb1; clear hb1)
    | refine wl_build_row rfl 144 _ rfl (.agg D0.toArray) (by kernel_rfl) ?_
    | refine wl_alloc_row rfl 144 rfl _ _ Try.info144 ?_
    | (refine wl_store_row rfl 144 _ _ rfl w1.heap.size 0 rfl 144 DZ D0 rfl (heap_alloc_last w1 _) 74 D0_len Try.size144 (by rw [DZ_len]; decide) (dg_one _ _ _ _) ?_; intro w2 h2 e2))
  obtain ⟨b, eb⟩ : ∃ b, b = w1.heap.size := ⟨_, rfl⟩
  have hd2 : Dig w2 b .start z64B 0 [] [] := by
    refine ⟨?_, z64B_len, by omega, by rw [hashB_short _ _ (by decide)], ⟨0, rfl⟩, rfl⟩
    have := h2.out
    rwa [splice_all _ _ (by rw [DZ_len, D0_len]), ← eb] at this
  have hbw : w.heap.size ≤ b := by rw [eb]; exact HB1.out.size
  have hl2 : Below w.heap.size w w2 := by
    rw [e2.out]
    exact Below.setRow (HB1.out.alloc HB1.out.size _) (by rw [← eb]; exact hbw) _
  rw [← eb]
  have H2 := hid (And.intro hd2 hl2)
  have HW := hid hbw
  clear hd2 hl2 h2 e2 HB1 eb hbw
  go_loopw [10] (fun i wr => ∃ (j : Nat) (S : St) (B : List UInt8) (k : Nat) (d : List UInt8), j ≤ n ∧ i = .int .i64 (j : Int) ∧ Dig wr b S B k d (joinB (ss.take j)) ∧ Below w.heap.size w wr)
    (fun i _ => ((n : Int) - intOf i).toNat)
  case atStart => exact ⟨0, .start, z64B, 0, [], by omega, rfl, H2.out.1, H2.out.2⟩
  case round =>
    obtain ⟨j, S, B, k, d, hj, rfl, hD, hbel⟩ := hrel
    have HD := hid (And.intro hD hbel)
    clear hD hbel H2
    by_cases hjn : j = n
    · have hj1 : ¬ ((j : Int) < (n : Int)) := by omega
      have et : joinB (ss.take j) = joinB ss := by rw [List.take_of_length_le (by rw [hjn]; exact Nat.le_of_eq HC.out.2.2.2.1.symm)]
      rw [et] at HD
      obtain ⟨m, em⟩ : ∃ m, m = joinB ss := ⟨_, rfl⟩
      rw [← em] at HD
      have c73 := cell_at HD.out.1.blk 73 _ (dg_total S B k m.length HD.out.1.len)
      have hsz : m.length < 1152921504606840000 := by rw [em]; exact HC.out.2.2.1
      have HZ := hid hsz
      have HE := hid em
      clear hsz em et hj hjn
      go_wp2_with (first
        | (go_at_call 109; refine (padding_any _ (by have := HZ.out; omega) _).mono ?_; rintro e w3 ⟨rfl, hb3⟩; have H3 := hid hb3; clear hb3)
        | (go_at_call 108; refine (add_any _ _ _ _ _ _ _ _ (Dig.keep HD.out.1 H3.out) (by rw [data_pad]; have := HZ.out; have := zerosN_lt m.length; omega)).mono ?_; rintro e w4 ⟨rfl, ⟨S4, B4, k4, d4, hD4⟩, hb4⟩; have H4 := hid (And.intro hD4 hb4); clear hD4 hb4)
        | refine wl_load_row rfl 140 _ rfl b 0 rfl (uC S4.list) _ Try.underlying140 rfl 8 (by rw [uC_len]; exact list_len S4) Try.size140 (fun j v hv => cell_at H4.out.1.blk _ _ (dg_state S4 B4 k4 _ j v hv)) ?_
        | (go_at_call 110; refine (stext_any _ _).mono ?_; rintro e w5 ⟨rfl, hb5⟩; have H5 := hid hb5; clear hb5))
      go_ret
      have hf := H4.out.1.final (pad_mod m)
      refine ⟨by rw [hf, ← HE.out]; rfl, ?_⟩
      have hlt3 : b < w3.heap.size := lt_of_blk (Dig.keep HD.out.1 H3.out).blk
      have hlt4 : b < w4.heap.size := lt_of_blk H4.out.1.blk
      exact ((HD.out.2.trans (H3.out.mono HD.out.2.size)).trans (H4.out.2.mono HW.out)).trans (H5.out.mono (by have := HW.out; omega))
    · have hj1 : (j : Int) < (n : Int) := by omega
      have hj0 : (0 : Int) ≤ (j : Int) := Int.natCast_nonneg _
      obtain ⟨s, es⟩ : ∃ s, ss[j]? = some s := ⟨_, List.getElem?_eq_getElem (by rw [← HC.out.2.2.2.1]; omega)⟩
      have cs : wr.cell? ⟨g, j, none⟩ = some (.string s) := (HD.out.2.cell (p := ⟨g, j, none⟩) HC.out.1).trans (HC.out.2.1 j s es)
      have ej := joinB_snoc ss j s es
      have hle := joinB_le ss (j + 1)
      rw [ej, List.length_append, data_len] at hle
      have hsz : (joinB (ss.take j)).length + s.size < 1152921504606846976 := by have := HC.out.2.2.1; omega
      have HS := hid (And.intro ej hsz)
      have hn63 : (n : Int) ≤ 9223372036854775807 := by have := HC.out.2.2.2.2; omega
      clear es ej hle hsz
      go_wp2_with (go_at_call 108; refine (add_any _ _ _ _ _ _ _ _ HD.out.1 HS.out.2).mono ?_; rintro e w4 ⟨rfl, ⟨S4, B4, k4, d4, hD4⟩, hb4⟩; have H4 := hid (And.intro hD4 hb4); clear hD4 hb4)
      go_roundw
      case rel => exact ⟨j + 1, S4, B4, k4, d4, by omega, rfl, by rw [HS.out.1]; exact H4.out.1, HD.out.2.trans (H4.out.2.mono HW.out)⟩
      case measure => simp [intOf]; omega
end Go.Proofs.Ytchlmcpnjpllnaa

/- Sum of parts that were laid last. -/
namespace Go.Proofs.Ytchlmcpnjpllnaa
open Go.RowKit

theorem two_cells (w : World) (s t : ByteArray) (j : Nat) (x : ByteArray) (h : [s, t][j]? = some x) : (w.alloc (.cells #[.string s, .string t] 9)).cell? ⟨w.heap.size, j, none⟩ = some (.string x) := by
  refine cell_at (L := [.string s, .string t]) (t := 9) (fr := (0, 0)) (heap_alloc_last w _) j _ ?_
  have : j < 2 := (List.getElem?_eq_some_iff.1 h).1
  obtain rfl | rfl : j = 0 ∨ j = 1 := by omega
  · simpa using h
  · simpa using h

theorem one_cell (w : World) (s : ByteArray) (j : Nat) (x : ByteArray) (h : [s][j]? = some x) : (w.alloc (.cells #[.string s] 9)).cell? ⟨w.heap.size, j, none⟩ = some (.string x) := by
  refine cell_at (L := [.string s]) (t := 9) (fr := (0, 0)) (heap_alloc_last w _) j _ ?_
  have : j < 1 := (List.getElem?_eq_some_iff.1 h).1
  obtain rfl : j = 0 := by omega
  simpa using h
/-- Sum of parts that were laid last. -/
theorem ssum_new (ss : List ByteArray) (cells : Array Value) (n cap : Nat) (u : World) (hn : ss.length = n) (hc : cells = (ss.map Value.string).toArray) (hsz : (joinB ss).length < 1152921504606840000) (h63 : n ≤ 9223372036854775807) :
    Calls Try.prog 99 #[.slice (some ⟨u.heap.size, 0, none⟩) n cap] (u.alloc (.cells cells 9)) fun e w' => e = .returned (.string ⟨(shaB (joinB ss)).toArray⟩) ∧ Below u.heap.size u w' := by
  subst hn
  have := ssum_any u.heap.size cap ss (u.alloc (.cells cells 9)) (by simp) (fun j s hj => by
    subst hc
    exact cell_at (L := ss.map Value.string) (t := 9) (fr := (0, 0)) (heap_alloc_last u _) j _ (by simp [hj])) hsz h63
  refine this.mono ?_
  rintro e w' ⟨rfl, hb⟩
  exact ⟨rfl, ((Below.refl _ _).alloc (Nat.le_refl _) _).trans (hb.mono (by simp))⟩

theorem joinB_one (s : ByteArray) : joinB [s] = s.data.toList := by simp [joinB]
end Go.Proofs.Ytchlmcpnjpllnaa

/- What serves in every later layer: texts out of rows, sums of two parts, regions that draw walked once in a class of worlds, two rows of one's own. -/
namespace Go.Proofs.Ytchlmcpnjpllnaa
open Go.RowKit

theorem joinB_two (s t : ByteArray) : joinB [s, t] = s.data.toList ++ t.data.toList := by simp [joinB]
theorem sum_two (s t : ByteArray) (hs : s.size ≤ 2000000) (ht : t.size ≤ 2000000) (u : World) (g : Nat) (hg : g = u.heap.size) :
    Calls Try.prog 99 #[.slice (some ⟨g, 0, none⟩) 2 2] (u.alloc (.cells #[.string s, .string t] 9)) fun e w' => e = .returned (.string ⟨(shaB (s.data.toList ++ t.data.toList)).toArray⟩) ∧ Below u.heap.size u w' := by
  subst hg
  have := ssum_new [s, t] #[.string s, .string t] 2 2 u rfl rfl (by rw [joinB_two, List.length_append, data_len, data_len]; omega) (by decide)
  rwa [joinB_two] at this
end Go.Proofs.Ytchlmcpnjpllnaa

/- The document's padding. -/
namespace Go.Proofs.Ytchlmcpnjpllnaa
open Go.RowKit

def lenOf : Value → Nat
  | .slice _ n _ => n
  | _ => 0

set_option maxRecDepth 100000 in
set_option maxHeartbeats 1600000 in
theorem qpad_any (n : Nat) (hn : n ≤ 1099511627776) (w : World) :
    Calls Try.prog 95 #[.int .i64 (n : Int)] w fun e w' => ∃ v, e = .returned v ∧ Owned w.heap.size w w' v (padB n) := by
  obtain ⟨i0, hi0, hz0, hz1, hz2⟩ := info_parts Try.info5
  obtain ⟨z, ez⟩ : ∃ z, z = zerosN n := ⟨_, rfl⟩
  have hz64 : z < 64 := by rw [ez]; exact zerosN_lt n
  have HZ := hid (And.intro ez (And.intro hz64 hn))
  have hn0 : (0 : Int) ≤ (n : Int) := Int.natCast_nonneg _
  have hn1 : (n : Int) ≤ 1099511627776 := by omega
  clear ez hz64 hn
  go_enter Try.func95, Try.ntmps95
  go_wp2
  go_loopw [3] (fun v wr => ∃ k : Nat, k ≤ z ∧ Owned w.heap.size w wr v (128 :: List.replicate k 0))
    (fun v _ => 66 - lenOf v)
  case atStart =>
    refine ⟨0, by omega, ⟨rfl, .inr ⟨w.heap.size, 1, _, rfl, Nat.le_refl _, heap_alloc_last w _, by simp, by decide, rfl, rfl⟩⟩, (Below.refl _ _).alloc (Nat.le_refl _) _, by simp⟩
  case round =>
    obtain ⟨k, hk, hO⟩ := hrel
    obtain ⟨av, cv, hv⟩ := hO.form
    rw [List.length_cons, List.length_replicate] at hv
    subst hv
    have HO := hid hO
    clear hO
    by_cases hkz : k = z
    · have hm : ((n : Int) + ((k + 1 : Nat) : Int) + 8) % 64 = 0 := by
        rw [hkz, HZ.out.1]
        unfold zerosN
        omega
      have hkn : (k : Int) ≤ 64 := by have := HZ.out.2.1; omega
      have HK := hid hkz
      clear hkz hk
      go_wp2
      have hb : (((n : Int) + ((k : Int) + 1) + 8) % 64 != 0) = false := by
        simp only [bne_eq_false_iff_eq]
        omega
      rw [hb]
      clear hb hm hkn
      have hO2 : Owned w.heap.size w wr (.slice av (k + 1) cv) (128 :: List.replicate z 0) := by rw [← HK.out]; exact HO.out
      have HO2 := hid hO2
      clear hO2 HO
      have hn2 : 8 * (n : Int) ≤ 8796093022208 := by omega
      go_loopw [3, 4] (fun v i wr => ∃ (q : Nat) (l : List UInt8), q ≤ 8 ∧ i = .int .i64 ((q : Int) - 1) ∧ l.length + q = z + 9 ∧ l ++ be q (8 * n) = padB n ∧ Owned w.heap.size w wr v l)
        (fun _ i _ => (intOf i + 1).toNat)
      case atStart => exact ⟨8, 128 :: List.replicate z 0, by omega, rfl, by simp, by rw [HZ.out.1]; rfl, HO2.out⟩
      case round =>
        clear HO2
        obtain ⟨q, l, hq, rfl, hlen, hl, hO⟩ := hrel
        have HO := hid (And.intro hO (And.intro hlen hl))
        clear hO hlen hl
        cases q with
        | zero =>
          have et : l = padB n := by have := HO.out.2.2; simpa [be] using this
          have HT := hid et
          clear et hq
          go_wp2
          go_ret
          exact ⟨_, rfl, by rw [← HT.out]; exact HO.out.1⟩
        | succ j =>
          have ej : (((j + 1 : Nat) : Int) - 1) = (j : Int) := by omega
          rw [ej]
          clear ej
          have hj0 : (0 : Int) ≤ (j : Int) := Int.natCast_nonneg _
          have hj7 : (j : Int) ≤ 7 := by omega
          have hj8 : (0 : Int) ≤ 8 * (j : Int) := by omega
          have HB := hid (pad_byte n j)
          obtain ⟨c, ec⟩ : ∃ c, c = UInt8.ofNat (8 * n / 256 ^ j) := ⟨_, rfl⟩
          rw [← ec] at HB
          have HE := hid ec
          clear ec
          go_wp2_with (first
            | (at_builtin; refine wpList_append_own_at _ rfl _ _ 57 rfl w.heap.size 5 i0 (.int .u8 0) 1 1 Try.underlying57 hi0 hz0 hz1 hz2 rfl (by decide) _ _ _ rfl (HO.out.1.alloc _).own ⟨_, 0, none⟩ 1 1 (bC [c]) rfl rfl (by rw [HB.out]; exact World.news_of_block (t := 5) (fr := (0, 0)) (heap_alloc_last _ _)) (bC_one _) (by have := HO.out.2.1; have := HZ.out.2.1; unfold maxLen; omega) (by have := HO.out.2.1; have := HZ.out.2.1; omega) (HO.out.1.alloc _).le ?_
               intro v3 w3 hown3 hgrow3 i3 i4
               have HO3 := hid ((HO.out.1.alloc _).grow (xs := [c]) rfl hown3 hgrow3)
               clear hown3 hgrow3 i3 i4))
          go_roundw
          case rel =>
            refine ⟨j, l ++ [c], by omega, rfl, ?_, ?_, HO3.out⟩
            · have := HO.out.2.1
              rw [List.length_append, List.length_singleton]
              omega
            · have := HO.out.2.2
              rw [be, ← HE.out] at this
              rw [List.append_assoc]
              exact this
          case measure => simp [intOf]
    · have hm : ¬ (((n : Int) + ((k + 1 : Nat) : Int) + 8) % 64 = 0) := by
        have := HZ.out.1
        have := HZ.out.2.1
        unfold zerosN at *
        omega
      have hkn : (k : Int) ≤ 64 := by have := HZ.out.2.1; omega
      have HK := hid (And.intro hkz hk)
      clear hkz hk
      go_wp2_with (first
        | (at_builtin; refine wpList_append_own_at _ rfl _ _ 57 rfl w.heap.size 5 i0 (.int .u8 0) 1 1 Try.underlying57 hi0 hz0 hz1 hz2 rfl (by decide) _ _ _ rfl (HO.out.alloc _).own ⟨_, 0, none⟩ 1 1 (bC [0]) rfl rfl (World.news_of_block (t := 5) (fr := (0, 0)) (heap_alloc_last _ _)) (bC_one _) (by have := HK.out.2; have := HZ.out.2.1; simp only [List.length_cons, List.length_replicate]; unfold maxLen; omega) (by have := HK.out.2; have := HZ.out.2.1; simp only [List.length_cons, List.length_replicate]; omega) (HO.out.alloc _).le ?_
           intro v3 w3 hown3 hgrow3 i3 i4
           have HO3 := hid ((HO.out.alloc _).grow (xs := [0]) rfl hown3 hgrow3)
           clear hown3 hgrow3 i3 i4))
      go_roundw
      case rel => exact ⟨k + 1, by have := HK.out; omega, by rw [List.replicate_succ']; exact HO3.out⟩
      case measure =>
        obtain ⟨a3, c3, h3⟩ := HO3.out.form
        simp only [List.length_append, List.length_cons, List.length_replicate, List.length_nil] at h3
        have := HK.out
        have := HZ.out.2.1
        rw [h3]
        simp only [lenOf]
        omega
end Go.Proofs.Ytchlmcpnjpllnaa

/- The document's words of a block. -/
namespace Go.Proofs.Ytchlmcpnjpllnaa
open Go.RowKit

theorem Try.infw129 : (Try.prog.info? 129).map (fun i => (i.zero, i.size, i.bytes)) = some (some (.int .u32 0), 1, 4) := by kernel_rfl

/-- The slice v holds the words l; nothing below B has turned since w0. -/
structure OwnedU (B : Nat) (w0 w : World) (v : Value) (l : List (BitVec 32)) : Prop where
  own : w.ownsRow B 129 1 v l.length (uC l)
  bel : Below B w0 w
  le : B ≤ w.heap.size
theorem OwnedU.alloc {B : Nat} {w0 w : World} {v : Value} {l : List (BitVec 32)} (h : OwnedU B w0 w v l) (o : Obj) : OwnedU B w0 (w.alloc o) v l :=
  ⟨h.own.alloc o, h.bel.alloc h.le o, by have := h.le; simp; omega⟩
theorem OwnedU.drew {B : Nat} {w0 w : World} {v : Value} {l : List (BitVec 32)} (h : OwnedU B w0 w v l) : OwnedU B w0 w.drew v l :=
  ⟨ownsRow_heap rfl h.own, h.bel.drew, h.le⟩
theorem OwnedU.drewN {B : Nat} {w0 w : World} {v : Value} {l : List (BitVec 32)} (h : OwnedU B w0 w v l) (n : Nat) : OwnedU B w0 (w.drewN n) v l :=
  ⟨ownsRow_heap rfl h.own, Below.same h.bel rfl rfl rfl rfl, h.le⟩
theorem OwnedU.grow {B : Nat} {w0 w w2 : World} {v v2 : Value} {l xs : List (BitVec 32)} {m : Nat} (h : OwnedU B w0 w v l) (hm : xs.length = m) (h2 : w2.ownsRow B 129 1 v2 (l.length + m) (uC l ++ uC xs)) (hg : w.grownBy w2 v.ownBlock) : OwnedU B w0 w2 v2 (l ++ xs) :=
  ⟨by rw [List.length_append, uC_app, hm]; exact h2, h.bel.grown hg h.le (fun k hk => (h.own.lt k hk).1), Nat.le_trans h.le hg.size⟩
theorem OwnedU.form {B : Nat} {w0 w : World} {v : Value} {l : List (BitVec 32)} (h : OwnedU B w0 w v l) : ∃ a cap, v = .slice a l.length cap := by
  rcases h.own.2 with ⟨hv, h0⟩ | ⟨g, cap, cur, hv, _⟩
  · exact ⟨none, 0, by rw [hv, h0]⟩
  · exact ⟨_, _, hv⟩
theorem OwnedU.form1 {B : Nat} {w0 w : World} {v : Value} {l : List (BitVec 32)} (h : OwnedU B w0 w v l) (hl : 0 < l.length) : ∃ g cap, v = .slice (some ⟨g, 0, none⟩) l.length cap ∧ ∀ j, j < l.length → w.cell? ⟨g, j, none⟩ = some (.int .u32 (u (l.getD j 0))) := by
  rcases h.own.2 with ⟨_, h0⟩ | ⟨g, cap, cur, hv, _⟩
  · omega
  · refine ⟨g, cap, hv, fun j hj => ?_⟩
    subst hv
    have := h.own.cells (g := g) rfl j _ (uC_get l j hj)
    rwa [Addr.add_lit, Nat.zero_add] at this

section
variable {P : Program} {o : Oper} {a : Act} {w : World} {K : Act → World → Prop} {Q : Exit → Act → World → Prop} {ops : Array Oper}
theorem wpOp_k {i : Nat} (hi : ops[i]? = some o) (hgd : o.guard = none) (h : ∀ K' : Act → World → Prop, (∀ a w, K a w → K' a w) → o.wp P a w K' Q) : wpOp P ops Q i K a w := by
  unfold Go.wpOp
  simp only [hi]
  have hw : Region.wanted o (yielded ops a.tmps) = true := by simp [Region.wanted, hgd]
  simp only [hw, if_true]
  exact .inl (h K (fun _ _ h => h))
end

theorem be4_or (a b c d : UInt8) : ((bW a <<< 24 ||| bW b <<< 16) ||| bW c <<< 8) ||| bW d = be4 a b c d := by
  rw [← four_bytes]
  simp only [BitVec.shiftLeft_or_distrib, ← BitVec.shiftLeft_add]
  simp
theorem be4_val (a b c d : UInt8) : bits .or .u32 (bits .or .u32 (bits .or .u32 ((a.toNat : Int) * 16777216 % 4294967296) ((b.toNat : Int) * 65536 % 4294967296)) ((c.toNat : Int) * 256 % 4294967296)) (d.toNat : Int) = u (be4 a b c d) := by
  rw [u_bW, u_bW, u_bW, u_bW, show (16777216 : Int) = ((2 ^ 24 : Nat) : Int) from rfl, show (65536 : Int) = ((2 ^ 16 : Nat) : Int) from rfl, show (256 : Int) = ((2 ^ 8 : Nat) : Int) from rfl, u_shl, u_shl, u_shl, u_or, u_or, u_or, be4_or]

theorem wrap_u32 (x : Int) : IntKind.u32.wrap x = x % 4294967296 := by simp [IntKind.wrap, IntKind.bits, IntKind.signed]
theorem be4_wrap (a b c d : UInt8) : bits .or .u32 (bits .or .u32 (bits .or .u32 (IntKind.u32.wrap (IntKind.u32.wrap (a.toNat : Int) * 16777216)) (IntKind.u32.wrap (IntKind.u32.wrap (b.toNat : Int) * 65536))) (IntKind.u32.wrap (IntKind.u32.wrap (c.toNat : Int) * 256))) (IntKind.u32.wrap (d.toNat : Int)) = u (be4 a b c d) := by
  have h : ∀ x : UInt8, (x.toNat : Int) % 4294967296 = (x.toNat : Int) := fun x => Int.emod_eq_of_lt (Int.natCast_nonneg _) (by have := x.toNat_lt; omega)
  simp only [wrap_u32, h]
  exact be4_val a b c d

theorem next_wrap (x1 x2 x3 x4 : BitVec 32) : IntKind.u32.wrap (IntKind.u32.wrap (IntKind.u32.wrap (bits .xor .u32 (bits .xor .u32 (u (rotr x2 17)) (u (rotr x2 19))) (u x2 / 1024) + u x3) + bits .xor .u32 (bits .xor .u32 (u (rotr x1 7)) (u (rotr x1 18))) (u x1 / 8)) + u x4) = u (sg1 x2 + x3 + sg0 x1 + x4) := by
  simp only [wrap_u32, sg1_val, sg0_val, u_add]

theorem words_take (L : List UInt8) (hL : L.length = 64) (q : Nat) (hq : q < 16) : (words16 16 L).take (q + 1) = (words16 16 L).take q ++ [be4 (L.getD (4 * q) 0) (L.getD (4 * q + 1) 0) (L.getD (4 * q + 2) 0) (L.getD (4 * q + 3) 0)] := by
  have h : ∀ m, m ≤ 16 → (words16 16 L).take m = words16 m (L.take (4 * m)) := by
    intro m hm
    have e1 := pw_all L hL
    have e2 := pw_words L hL m hm
    have hl : (words16 m (L.take (4 * m))).length = m := words16_len m _ (by simp; omega)
    have key : ∀ (r : Nat), m + r = 16 → (words16 16 L).take m = words16 m (L.take (4 * m)) := by
      intro r
      induction r generalizing m with
      | zero => intro hr; obtain rfl : m = 16 := by omega
                rw [List.take_of_length_le (by rw [words16_len 16 L (by omega)]; exact Nat.le_refl _), List.take_of_length_le (by omega)]
      | succ r ih =>
        intro hr
        have h1 := ih (m + 1) (by omega) (pw_words L hL (m + 1) (by omega)) (words16_len (m + 1) _ (by simp; omega)) (by omega)
        rw [show 4 * (m + 1) = 4 * m + 4 by omega, take4 L (4 * m) (by omega), words16_snoc m _ (by simp; omega)] at h1
        have h2 : (words16 16 L).take m = ((words16 16 L).take (m + 1)).take m := by rw [List.take_take, Nat.min_eq_left (by omega)]
        rw [h2, h1, List.take_append_of_le_length (by rw [hl]; exact Nat.le_refl _), List.take_of_length_le (by rw [hl]; exact Nat.le_refl _)]
    exact key (16 - m) (by omega)
  rw [h (q + 1) (by omega), h q (by omega), show 4 * (q + 1) = 4 * q + 4 by omega, take4 L (4 * q) (by omega), words16_snoc q _ (by simp; omega)]

set_option maxRecDepth 100000 in
set_option maxHeartbeats 3200000 in
theorem qwords_any (g off cap : Nat) (L : List UInt8) (hL : L.length = 64) (w : World) (hg : g < w.heap.size) (hc : ∀ j v, (bC L)[j]? = some v → w.cell? ⟨g, off + j, none⟩ = some v) :
    Calls Try.prog 96 #[.slice (some ⟨g, off, none⟩) 64 cap] w fun e w' => ∃ v, e = .returned v ∧ OwnedU w.heap.size w w' v (sched L) := by
  obtain ⟨i0, hi0, hz0, hz1, hz2⟩ := info_parts Try.infw129
  have HL := hid (And.intro hL (And.intro hg hc))
  clear hL hg hc
  go_enter Try.func96, Try.ntmps96
  go_wp2
  go_loopw [3, 4] (fun v i wr => ∃ q : Nat, q ≤ 16 ∧ i = .int .i64 ((4 * q : Nat) : Int) ∧ OwnedU w.heap.size w wr v ((words16 16 L).take q))
    (fun _ i _ => (64 - intOf i).toNat)
  case atStart => exact ⟨0, by omega, rfl, ⟨rfl, .inl ⟨rfl, rfl⟩⟩, Below.refl _ _, Nat.le_refl _⟩
  case round =>
    obtain ⟨q, hq, rfl, hO⟩ := hrel
    by_cases hq16 : q = 16
    · have hO2 : OwnedU w.heap.size w wr u3 (words16 16 L) := by
        rw [hq16, List.take_of_length_le (by rw [words16_len 16 L (by rw [HL.out.1])]; exact Nat.le_refl _)] at hO
        exact hO
      have HO2 := hid hO2
      have hk1 : ¬ (((4 * q : Nat) : Int) < 64) := by omega
      clear hO hO2 hq hq16
      go_wp2
      have hb4 : decide (4 * (q : Int) < 64) = false := by simp; omega
      try rw [hb4]
      clear hb4
      go_loopw [3, 5] (fun v i wr => ∃ (l : List (BitVec 32)) (m : Nat), l.length = m + 16 ∧ m ≤ 48 ∧ i = .int .i64 ((m : Int) + 16) ∧ moreW (48 - m) l = sched L ∧ OwnedU w.heap.size w wr v l)
        (fun _ i _ => (64 - intOf i).toNat)
      case atStart => exact ⟨words16 16 L, 0, by rw [words16_len 16 L (by rw [HL.out.1])], by omega, rfl, rfl, HO2.out⟩
      case round =>
        clear HO2
        obtain ⟨l, m, hl, hm, rfl, hs, hO⟩ := hrel
        by_cases hm48 : m = 48
        · have HO := hid (And.intro hO (And.intro hs hm48))
          have hk2 : ¬ ((m : Int) + 16 < 64) := by omega
          clear hO hs hl hm hm48
          go_wp2
          go_ret
          have e := HO.out.2.1
          rw [HO.out.2.2] at e
          exact ⟨_, rfl, by rw [← e]; exact HO.out.1⟩
        · have hm1 : (m : Int) < 48 := by omega
          have hm0 : (0 : Int) ≤ (m : Int) := Int.natCast_nonneg _
          obtain ⟨gv, cv, hv, cell⟩ := hO.form1 (by omega)
          rw [hl] at hv cell
          subst hv
          obtain ⟨x1, e1⟩ : ∃ x, x = l.getD (m + 1) 0 := ⟨_, rfl⟩
          obtain ⟨x2, e2⟩ : ∃ x, x = l.getD (m + 14) 0 := ⟨_, rfl⟩
          obtain ⟨x3, e3⟩ : ∃ x, x = l.getD (m + 9) 0 := ⟨_, rfl⟩
          obtain ⟨x4, e4⟩ : ∃ x, x = l.getD m 0 := ⟨_, rfl⟩
          have c1 := cell (m + 1) (by omega)
          have c2 := cell (m + 14) (by omega)
          have c3 := cell (m + 9) (by omega)
          have c4 := cell m (by omega)
          rw [← e1] at c1
          rw [← e2] at c2
          rw [← e3] at c3
          rw [← e4] at c4
          have en : nextW l = sg1 x2 + x3 + sg0 x1 + x4 := by
            rw [nextW, hl, e1, e2, e3, e4, show m + 16 - 2 = m + 14 by omega, show m + 16 - 7 = m + 9 by omega, show m + 16 - 15 = m + 1 by omega, show m + 16 - 16 = m by omega]
          have HO := hid hO
          have HX := hid (And.intro en (And.intro hl (And.intro hs hm)))
          clear e1 e2 e3 e4 cell en hO hl hs hm hm48
          go_wp2
          go_quiet (fail)
          go_wp2_with (go_at_call 97; refine (turn_any _ _ _ (by decide)).mono ?_; rintro e w1 ⟨rfl, rfl⟩)
          have h9 : (0 : Int) ≤ (m : Int) + 9 := by omega
          have hmm : (m : Int) < (m : Int) + 16 := by omega
          have ht9 : ((m : Int) + 9).toNat = m + 9 := by omega
          refine wp_region_any (by kernel_rfl) ?_
          try (change wpAny _ _ _ _ _ _ _ (World.drew _))
          refine wpAny_take (i := 0) (v := ?v1) rfl (by kernel_rfl) (by kernel_rfl) (by kernel_rfl) (fun _ _ _ h => h) (Or.inl ⟨by rfl, ?hy1⟩) ?rest1
          case hy1 => (intro ww; go_simp; try with_reducible rfl)
          go_simp
          refine wpAny_take (i := 1) (v := ?v2) rfl (by kernel_rfl) (by kernel_rfl) (by kernel_rfl) (fun _ _ _ h => h) (Or.inl ⟨by rfl, ?hy2⟩) ?rest2
          case hy2 => (intro ww; go_simp; try with_reducible rfl)
          go_simp
          refine wpAny_take (i := 2) (v := ?v3) rfl (by kernel_rfl) (by kernel_rfl) (by kernel_rfl) (fun _ _ _ h => h) (Or.inl ⟨by rfl, ?hy3⟩) ?rest3
          case hy3 => (intro ww; go_simp; try with_reducible rfl)
          go_simp
          refine wpAny_take (i := 3) (v := ?v4) rfl (by kernel_rfl) (by kernel_rfl) (by kernel_rfl) (fun _ _ _ h => h) (Or.inl ⟨by rfl, ?hy4⟩) ?rest4
          case hy4 => (intro ww; go_simp; try with_reducible rfl)
          go_simp
          refine wpAny_take (i := 4) (v := .int .i64 ((m : Int) + 9)) rfl (by kernel_rfl) (by kernel_rfl) (by kernel_rfl) (fun _ _ _ h => h) (Or.inl ⟨by rfl, ?_⟩) ?_
          · intro ww; go_simp; rw [wrap_small _ (by omega) (by omega)]; omega
          go_simp
          refine wpAny_take (i := 5) (v := ?v5) rfl (by kernel_rfl) (by kernel_rfl) (by kernel_rfl) (fun _ _ _ h => h) (Or.inl ⟨by rfl, ?hy5⟩) ?rest5
          case hy5 => (intro ww; go_simp; try with_reducible rfl)
          go_simp
          refine wpAny_take (i := 8) (v := ?v6) rfl (by kernel_rfl) (by kernel_rfl) (by kernel_rfl) (fun _ _ _ h => h) (Or.inl ⟨by rfl, ?hy6⟩) ?rest6
          case hy6 => (intro ww; go_simp; try with_reducible rfl)
          go_simp
          refine wpAny_take (i := 10) (v := ?v7) rfl (by kernel_rfl) (by kernel_rfl) (by kernel_rfl) (fun _ _ _ h => h) (Or.inl ⟨by rfl, ?hy7⟩) ?rest7
          case hy7 => (intro ww; go_simp; try with_reducible rfl)
          go_simp
          refine wpAny_take (i := 11) (v := ?v8) rfl (by kernel_rfl) (by kernel_rfl) (by kernel_rfl) (fun _ _ _ h => h) (Or.inl ⟨by rfl, ?hy8⟩) ?rest8
          case hy8 => (intro ww; go_simp; try with_reducible rfl)
          go_simp
          refine wpAny_take (i := 12) (v := .int .i64 (m : Int)) rfl (by kernel_rfl) (by kernel_rfl) (by kernel_rfl) (fun _ _ _ h => h) (Or.inl ⟨by rfl, ?_⟩) ?_
          · intro ww; go_simp; exact wrap_small _ (by omega) (by omega)
          go_simp
          refine wpAny_take (i := 13) (v := ?v9) rfl (by kernel_rfl) (by kernel_rfl) (by kernel_rfl) (fun _ _ _ h => h) (Or.inl ⟨by rfl, ?hy9⟩) ?rest9
          case hy9 => (intro ww; go_simp; try with_reducible rfl)
          go_simp
          refine wpAny_ready (rs := [6, 14]) (by kernel_rfl) (by simp) ?_
          refine AllReady.cons rfl (fun K hK => ?_) ?_
          · go_simp
            refine hK _ _ ?_
            clear hK K
            refine wpAny_take (i := 7) (v := ?v10) rfl (by kernel_rfl) (by kernel_rfl) (by kernel_rfl) (fun _ _ _ h => h) (Or.inl ⟨by rfl, ?hy10⟩) ?rest10
            case hy10 => (intro ww; go_simp; try with_reducible rfl)
            go_simp
            refine wpAny_take (i := 9) (v := ?v11) rfl (by kernel_rfl) (by kernel_rfl) (by kernel_rfl) (fun _ _ _ h => h) (Or.inl ⟨by rfl, ?hy11⟩) ?rest11
            case hy11 => (intro ww; go_simp; try with_reducible rfl)
            go_simp
            refine wpAny_ready (rs := [14]) (by kernel_rfl) (by simp) ?_
            refine AllReady.cons rfl (fun K hK => ?_) ?_
            · go_simp
              refine hK _ _ ?_
              clear hK K
              refine wpAny_take (i := 15) (v := ?v12) rfl (by kernel_rfl) (by kernel_rfl) (by kernel_rfl) (fun _ _ _ h => h) (Or.inl ⟨by rfl, ?hy12⟩) ?rest12
              case hy12 => (intro ww; go_simp; try with_reducible rfl)
              go_simp
              refine wpAny_ready (rs := [16]) (by kernel_rfl) (by simp) ?_
              refine AllReady.cons rfl (fun K hK => ?_) ?_
              · go_simp
                refine hK _ _ ?_
                clear hK K
                rw [next_wrap]
                refine wpAny_ready (rs := [17]) (by kernel_rfl) (by simp) ?_
                refine AllReady.cons rfl (fun K hK => ?_) ?_
                · refine step_of rfl ?_
                  refine wp_append_own _ _ _ 131 rfl w.heap.size 129 i0 (.int .u32 0) 1 4 Try.underlying131 hi0 hz0 hz1 hz2 rfl (by decide) _ _ _ rfl ((HO.out.drewN nq).alloc _).drew.own ⟨wr.heap.size, 0, none⟩ 1 1 (uC [sg1 x2 + x3 + sg0 x1 + x4]) rfl rfl (World.news_of_block (t := 129) (fr := (0, 0)) (heap_alloc_last wr _)) (uC_one _) (by rw [HX.out.2.1]; have := HX.out.2.2.2; unfold maxLen; omega) (by rw [HX.out.2.1]; have := HX.out.2.2.2; omega) (HO.out.alloc _).le ?_
                  intro v3 w3 hown3 hgrow3 i3
                  have HO3 := hid (((HO.out.drewN nq).alloc _).drew.grow (xs := [sg1 x2 + x3 + sg0 x1 + x4]) rfl hown3 hgrow3)
                  refine hK _ _ ?_
                  clear hown3 hgrow3 i3 hK K
                  go_simp
                  refine wpAny_take (i := 18) (v := ?v13) rfl (by kernel_rfl) (by kernel_rfl) (by kernel_rfl) (fun _ _ _ h => h) (Or.inl ⟨by rfl, ?hy13⟩) ?rest13
                  case hy13 => (intro ww; go_simp; try with_reducible rfl)
                  go_simp
                  refine wpAny_done (by kernel_rfl) ?_ _
                  go_simp
                  go_wp2
                  refine ⟨⟨l ++ [nextW l], m + 1, by rw [List.length_append, HX.out.2.1]; rfl, by omega, by rw [show ((m + 1 : Nat) : Int) + 16 = (m : Int) + 16 + 1 by omega], ?_, by rw [HX.out.1]; exact HO3.out⟩, by simp [intOf]; omega⟩
                  have := HX.out.2.2.1
                  rw [show 48 - m = 48 - (m + 1) + 1 by omega, moreW] at this
                  exact this
                exact AllReady.nil
              exact AllReady.nil
            exact AllReady.nil
          refine AllReady.cons rfl (fun K hK => ?_) ?_
          · go_simp
            refine hK _ _ ?_
            clear hK K
            refine wpAny_ready (rs := [6]) (by kernel_rfl) (by simp) ?_
            refine AllReady.cons rfl (fun K hK => ?_) ?_
            · go_simp
              refine hK _ _ ?_
              clear hK K
              refine wpAny_take (i := 7) (v := ?v14) rfl (by kernel_rfl) (by kernel_rfl) (by kernel_rfl) (fun _ _ _ h => h) (Or.inl ⟨by rfl, ?hy14⟩) ?rest14
              case hy14 => (intro ww; go_simp; try with_reducible rfl)
              go_simp
              refine wpAny_take (i := 9) (v := ?v15) rfl (by kernel_rfl) (by kernel_rfl) (by kernel_rfl) (fun _ _ _ h => h) (Or.inl ⟨by rfl, ?hy15⟩) ?rest15
              case hy15 => (intro ww; go_simp; try with_reducible rfl)
              go_simp
              refine wpAny_take (i := 15) (v := ?v16) rfl (by kernel_rfl) (by kernel_rfl) (by kernel_rfl) (fun _ _ _ h => h) (Or.inl ⟨by rfl, ?hy16⟩) ?rest16
              case hy16 => (intro ww; go_simp; try with_reducible rfl)
              go_simp
              refine wpAny_ready (rs := [16]) (by kernel_rfl) (by simp) ?_
              refine AllReady.cons rfl (fun K hK => ?_) ?_
              · go_simp
                refine hK _ _ ?_
                clear hK K
                rw [next_wrap]
                refine wpAny_ready (rs := [17]) (by kernel_rfl) (by simp) ?_
                refine AllReady.cons rfl (fun K hK => ?_) ?_
                · refine step_of rfl ?_
                  refine wp_append_own _ _ _ 131 rfl w.heap.size 129 i0 (.int .u32 0) 1 4 Try.underlying131 hi0 hz0 hz1 hz2 rfl (by decide) _ _ _ rfl ((HO.out.drewN nq).alloc _).drew.own ⟨wr.heap.size, 0, none⟩ 1 1 (uC [sg1 x2 + x3 + sg0 x1 + x4]) rfl rfl (World.news_of_block (t := 129) (fr := (0, 0)) (heap_alloc_last wr _)) (uC_one _) (by rw [HX.out.2.1]; have := HX.out.2.2.2; unfold maxLen; omega) (by rw [HX.out.2.1]; have := HX.out.2.2.2; omega) (HO.out.alloc _).le ?_
                  intro v3 w3 hown3 hgrow3 i3
                  have HO3 := hid (((HO.out.drewN nq).alloc _).drew.grow (xs := [sg1 x2 + x3 + sg0 x1 + x4]) rfl hown3 hgrow3)
                  refine hK _ _ ?_
                  clear hown3 hgrow3 i3 hK K
                  go_simp
                  refine wpAny_take (i := 18) (v := ?v17) rfl (by kernel_rfl) (by kernel_rfl) (by kernel_rfl) (fun _ _ _ h => h) (Or.inl ⟨by rfl, ?hy17⟩) ?rest17
                  case hy17 => (intro ww; go_simp; try with_reducible rfl)
                  go_simp
                  refine wpAny_done (by kernel_rfl) ?_ _
                  go_simp
                  go_wp2
                  refine ⟨⟨l ++ [nextW l], m + 1, by rw [List.length_append, HX.out.2.1]; rfl, by omega, by rw [show ((m + 1 : Nat) : Int) + 16 = (m : Int) + 16 + 1 by omega], ?_, by rw [HX.out.1]; exact HO3.out⟩, by simp [intOf]; omega⟩
                  have := HX.out.2.2.1
                  rw [show 48 - m = 48 - (m + 1) + 1 by omega, moreW] at this
                  exact this
                exact AllReady.nil
              exact AllReady.nil
            exact AllReady.nil
          exact AllReady.nil
    · have hk1 : ((4 * q : Nat) : Int) < 64 := by omega
      obtain ⟨p, ep⟩ : ∃ p, p = 4 * q := ⟨_, rfl⟩
      have hlen : ((words16 16 L).take q).length = q := by rw [List.length_take, words16_len 16 L (by rw [HL.out.1])]; omega
      obtain ⟨av, cv, hv⟩ := hO.form
      rw [hlen] at hv
      subst hv
      have ew := words_take L HL.out.1 q (by omega)
      rw [← ep] at hk1 ew ⊢
      obtain ⟨a, ea⟩ : ∃ x, x = L.getD p 0 := ⟨_, rfl⟩
      obtain ⟨b, eb⟩ : ∃ x, x = L.getD (p + 1) 0 := ⟨_, rfl⟩
      obtain ⟨c, ec⟩ : ∃ x, x = L.getD (p + 2) 0 := ⟨_, rfl⟩
      obtain ⟨d, ed⟩ : ∃ x, x = L.getD (p + 3) 0 := ⟨_, rfl⟩
      rw [← ea, ← eb, ← ec, ← ed] at ew
      have HC : Hid (∀ ww : World, ww.heap[g]? = w.heap[g]? → ww.cell? ⟨g, off + p, none⟩ = some (.int .u8 (a.toNat : Int)) ∧ ww.cell? ⟨g, off + (p + 1), none⟩ = some (.int .u8 (b.toNat : Int)) ∧ ww.cell? ⟨g, off + (p + 2), none⟩ = some (.int .u8 (c.toNat : Int)) ∧ ww.cell? ⟨g, off + (p + 3), none⟩ = some (.int .u8 (d.toNat : Int))) := hid (by
        intro ww hS
        have hcl : ∀ j, ww.cell? ⟨g, j, none⟩ = w.cell? ⟨g, j, none⟩ := fun j => by simp only [World.cell?, hS]
        have hb : ∀ j, j < 64 → ww.cell? ⟨g, off + j, none⟩ = some (.int .u8 ((L.getD j 0).toNat : Int)) := fun j hj => (hcl _).trans (HL.out.2.2 j _ (bC_get L j (by rw [HL.out.1]; exact hj)))
        rw [ea, eb, ec, ed]
        exact ⟨hb p (by omega), hb (p + 1) (by omega), hb (p + 2) (by omega), hb (p + 3) (by omega)⟩)
      have HO := hid hO
      have HSW : Hid (wr.heap[g]? = w.heap[g]?) := hid (hO.bel.block g HL.out.2.1)
      have HW := hid (And.intro ew (And.intro hlen (And.intro hq ep)))
      have hp0 : (0 : Int) ≤ (p : Int) := Int.natCast_nonneg _
      have hp1 : (p : Int) + 1 < 64 := by omega
      have hp2 : (p : Int) + 2 < 64 := by omega
      have hp3 : (p : Int) + 3 < 64 := by omega
      have hp4 : (0 : Int) ≤ (p : Int) + 1 := by omega
      have hp5 : (0 : Int) ≤ (p : Int) + 2 := by omega
      have hp6 : (0 : Int) ≤ (p : Int) + 3 := by omega
      have ht2 : ((p : Int) + 2).toNat = p + 2 := by omega
      have ht3 : ((p : Int) + 3).toNat = p + 3 := by omega
      clear ea eb ec ed hO ew hlen hq hq16 ep
      go_wp2
      refine wp_region_held (S := fun ww => ww.heap[g]? = w.heap[g]?) (by kernel_rfl) ?_
      try (change wpAnyH _ _ _ _ _ _ _ _ (World.drew _))
      refine wpAnyH_take (i := 0) (v := ?v18) rfl (by kernel_rfl) (by kernel_rfl) (by kernel_rfl) (fun _ _ _ h => h) (Or.inl ⟨by rfl, ?hy18⟩) HSW.out ?rest18
      case hy18 => (intro ww _; go_simp; try with_reducible rfl)
      go_simp
      refine wpAnyH_take (i := 1) (v := ?v19) rfl (by kernel_rfl) (by kernel_rfl) (by kernel_rfl) (fun _ _ _ h => h) (Or.inl ⟨by rfl, ?hy19⟩) HSW.out ?rest19
      case hy19 => (intro ww _; go_simp; try with_reducible rfl)
      go_simp
      refine wpAnyH_take (i := 2) (v := ?v20) rfl (by kernel_rfl) (by kernel_rfl) (by kernel_rfl) (fun _ _ _ h => h) (Or.inl ⟨by rfl, ?hy20⟩) HSW.out ?rest20
      case hy20 => (intro ww _; go_simp; try with_reducible rfl)
      go_simp
      refine wpAnyH_take (i := 3) (v := ?v21) rfl (by kernel_rfl) (by kernel_rfl) (by kernel_rfl) (fun _ _ _ h => h) (Or.inl ⟨by rfl, ?hy21⟩) HSW.out ?rest21
      case hy21 => (intro ww _; go_simp; try with_reducible rfl)
      go_simp
      refine wpAnyH_take (i := 4) (v := ?v22) rfl (by kernel_rfl) (by kernel_rfl) (by kernel_rfl) (fun _ _ _ h => h) (Or.inl ⟨by rfl, ?hy22⟩) HSW.out ?rest22
      case hy22 => (intro ww hS; obtain ⟨z0, z1, z2, z3⟩ := HC.out ww hS; go_simp; try with_reducible rfl)
      go_simp
      refine wpAnyH_take (i := 5) (v := ?v23) rfl (by kernel_rfl) (by kernel_rfl) (by kernel_rfl) (fun _ _ _ h => h) (Or.inl ⟨by rfl, ?hy23⟩) HSW.out ?rest23
      case hy23 => (intro ww _; go_simp; try with_reducible rfl)
      go_simp
      refine wpAnyH_take (i := 6) (v := ?v24) rfl (by kernel_rfl) (by kernel_rfl) (by kernel_rfl) (fun _ _ _ h => h) (Or.inl ⟨by rfl, ?hy24⟩) HSW.out ?rest24
      case hy24 => (intro ww _; go_simp; try with_reducible rfl)
      go_simp
      refine wpAnyH_take (i := 7) (v := ?v25) rfl (by kernel_rfl) (by kernel_rfl) (by kernel_rfl) (fun _ _ _ h => h) (Or.inl ⟨by rfl, ?hy25⟩) HSW.out ?rest25
      case hy25 => (intro ww _; go_simp; try with_reducible rfl)
      go_simp
      refine wpAnyH_take (i := 8) (v := ?v26) rfl (by kernel_rfl) (by kernel_rfl) (by kernel_rfl) (fun _ _ _ h => h) (Or.inl ⟨by rfl, ?hy26⟩) HSW.out ?rest26
      case hy26 => (intro ww _; go_simp; try with_reducible rfl)
      go_simp
      refine wpAnyH_take (i := 9) (v := .int .i64 ((p : Int) + 1)) rfl (by kernel_rfl) (by kernel_rfl) (by kernel_rfl) (fun _ _ _ h => h) (Or.inl ⟨by rfl, ?_⟩) HSW.out ?_
      · intro ww _; go_simp; exact wrap_small _ (by omega) (by omega)
      go_simp
      refine wpAnyH_take (i := 10) (v := ?v27) rfl (by kernel_rfl) (by kernel_rfl) (by kernel_rfl) (fun _ _ _ h => h) (Or.inl ⟨by rfl, ?hy27⟩) HSW.out ?rest27
      case hy27 => (intro ww _; go_simp; try with_reducible rfl)
      go_simp
      refine wpAnyH_take (i := 11) (v := ?v28) rfl (by kernel_rfl) (by kernel_rfl) (by kernel_rfl) (fun _ _ _ h => h) (Or.inl ⟨by rfl, ?hy28⟩) HSW.out ?rest28
      case hy28 => (intro ww hS; obtain ⟨z0, z1, z2, z3⟩ := HC.out ww hS; go_simp; try with_reducible rfl)
      go_simp
      refine wpAnyH_take (i := 12) (v := ?v29) rfl (by kernel_rfl) (by kernel_rfl) (by kernel_rfl) (fun _ _ _ h => h) (Or.inl ⟨by rfl, ?hy29⟩) HSW.out ?rest29
      case hy29 => (intro ww _; go_simp; try with_reducible rfl)
      go_simp
      refine wpAnyH_take (i := 13) (v := ?v30) rfl (by kernel_rfl) (by kernel_rfl) (by kernel_rfl) (fun _ _ _ h => h) (Or.inl ⟨by rfl, ?hy30⟩) HSW.out ?rest30
      case hy30 => (intro ww _; go_simp; try with_reducible rfl)
      go_simp
      refine wpAnyH_take (i := 14) (v := ?v31) rfl (by kernel_rfl) (by kernel_rfl) (by kernel_rfl) (fun _ _ _ h => h) (Or.inl ⟨by rfl, ?hy31⟩) HSW.out ?rest31
      case hy31 => (intro ww _; go_simp; try with_reducible rfl)
      go_simp
      refine wpAnyH_take (i := 15) (v := ?v32) rfl (by kernel_rfl) (by kernel_rfl) (by kernel_rfl) (fun _ _ _ h => h) (Or.inl ⟨by rfl, ?hy32⟩) HSW.out ?rest32
      case hy32 => (intro ww _; go_simp; try with_reducible rfl)
      go_simp
      refine wpAnyH_take (i := 16) (v := ?v33) rfl (by kernel_rfl) (by kernel_rfl) (by kernel_rfl) (fun _ _ _ h => h) (Or.inl ⟨by rfl, ?hy33⟩) HSW.out ?rest33
      case hy33 => (intro ww _; go_simp; try with_reducible rfl)
      go_simp
      refine wpAnyH_take (i := 17) (v := .int .i64 ((p : Int) + 2)) rfl (by kernel_rfl) (by kernel_rfl) (by kernel_rfl) (fun _ _ _ h => h) (Or.inl ⟨by rfl, ?_⟩) HSW.out ?_
      · intro ww _; go_simp; exact wrap_small _ (by omega) (by omega)
      go_simp
      refine wpAnyH_take (i := 18) (v := ?v34) rfl (by kernel_rfl) (by kernel_rfl) (by kernel_rfl) (fun _ _ _ h => h) (Or.inl ⟨by rfl, ?hy34⟩) HSW.out ?rest34
      case hy34 => (intro ww _; go_simp; try with_reducible rfl)
      go_simp
      refine wpAnyH_take (i := 19) (v := ?v35) rfl (by kernel_rfl) (by kernel_rfl) (by kernel_rfl) (fun _ _ _ h => h) (Or.inl ⟨by rfl, ?hy35⟩) HSW.out ?rest35
      case hy35 => (intro ww hS; obtain ⟨z0, z1, z2, z3⟩ := HC.out ww hS; go_simp; try with_reducible rfl)
      go_simp
      refine wpAnyH_take (i := 20) (v := ?v36) rfl (by kernel_rfl) (by kernel_rfl) (by kernel_rfl) (fun _ _ _ h => h) (Or.inl ⟨by rfl, ?hy36⟩) HSW.out ?rest36
      case hy36 => (intro ww _; go_simp; try with_reducible rfl)
      go_simp
      refine wpAnyH_take (i := 21) (v := ?v37) rfl (by kernel_rfl) (by kernel_rfl) (by kernel_rfl) (fun _ _ _ h => h) (Or.inl ⟨by rfl, ?hy37⟩) HSW.out ?rest37
      case hy37 => (intro ww _; go_simp; try with_reducible rfl)
      go_simp
      refine wpAnyH_take (i := 22) (v := ?v38) rfl (by kernel_rfl) (by kernel_rfl) (by kernel_rfl) (fun _ _ _ h => h) (Or.inl ⟨by rfl, ?hy38⟩) HSW.out ?rest38
      case hy38 => (intro ww _; go_simp; try with_reducible rfl)
      go_simp
      refine wpAnyH_take (i := 23) (v := ?v39) rfl (by kernel_rfl) (by kernel_rfl) (by kernel_rfl) (fun _ _ _ h => h) (Or.inl ⟨by rfl, ?hy39⟩) HSW.out ?rest39
      case hy39 => (intro ww _; go_simp; try with_reducible rfl)
      go_simp
      refine wpAnyH_take (i := 24) (v := ?v40) rfl (by kernel_rfl) (by kernel_rfl) (by kernel_rfl) (fun _ _ _ h => h) (Or.inl ⟨by rfl, ?hy40⟩) HSW.out ?rest40
      case hy40 => (intro ww _; go_simp; try with_reducible rfl)
      go_simp
      refine wpAnyH_take (i := 25) (v := .int .i64 ((p : Int) + 3)) rfl (by kernel_rfl) (by kernel_rfl) (by kernel_rfl) (fun _ _ _ h => h) (Or.inl ⟨by rfl, ?_⟩) HSW.out ?_
      · intro ww _; go_simp; exact wrap_small _ (by omega) (by omega)
      go_simp
      refine wpAnyH_take (i := 26) (v := ?v41) rfl (by kernel_rfl) (by kernel_rfl) (by kernel_rfl) (fun _ _ _ h => h) (Or.inl ⟨by rfl, ?hy41⟩) HSW.out ?rest41
      case hy41 => (intro ww _; go_simp; try with_reducible rfl)
      go_simp
      refine wpAnyH_take (i := 27) (v := ?v42) rfl (by kernel_rfl) (by kernel_rfl) (by kernel_rfl) (fun _ _ _ h => h) (Or.inl ⟨by rfl, ?hy42⟩) HSW.out ?rest42
      case hy42 => (intro ww hS; obtain ⟨z0, z1, z2, z3⟩ := HC.out ww hS; go_simp; try with_reducible rfl)
      go_simp
      refine wpAnyH_take (i := 28) (v := ?v43) rfl (by kernel_rfl) (by kernel_rfl) (by kernel_rfl) (fun _ _ _ h => h) (Or.inl ⟨by rfl, ?hy43⟩) HSW.out ?rest43
      case hy43 => (intro ww _; go_simp; try with_reducible rfl)
      go_simp
      refine wpAnyH_take (i := 29) (v := ?v44) rfl (by kernel_rfl) (by kernel_rfl) (by kernel_rfl) (fun _ _ _ h => h) (Or.inl ⟨by rfl, ?hy44⟩) HSW.out ?rest44
      case hy44 => (intro ww _; go_simp; try with_reducible rfl)
      go_simp
      refine wpAnyH_all (rs := [30]) (by kernel_rfl) (by simp) ?_
      intro i hi
      obtain rfl := List.mem_singleton.1 hi
      clear hi
      refine wpOp_k rfl rfl (fun K hK => ?_)
      go_simp
      refine hK _ _ ⟨?_, ?_⟩
      · exact (Below.heap_alloc _ _ _ (Nat.lt_of_lt_of_le HL.out.2.1 HO.out.le)).trans HSW.out
      clear hK K
      refine wpAnyH_all (rs := [31]) (by kernel_rfl) (by simp) ?_
      intro i hi
      obtain rfl := List.mem_singleton.1 hi
      clear hi
      refine wpOp_k rfl rfl (fun K hK => ?_)
      rw [be4_wrap]
      refine wp_append_own _ _ _ 131 rfl w.heap.size 129 i0 (.int .u32 0) 1 4 Try.underlying131 hi0 hz0 hz1 hz2 rfl (by decide) _ _ _ rfl (HO.out.alloc _).drew.own ⟨wr.heap.size, 0, none⟩ 1 1 (uC [be4 a b c d]) rfl rfl (World.news_of_block (t := 129) (fr := (0, 0)) (heap_alloc_last wr _)) (uC_one _) (by rw [HW.out.2.1]; have := HW.out.2.2.1; unfold maxLen; omega) (by rw [HW.out.2.1]; have := HW.out.2.2.1; omega) (HO.out.alloc _).le ?_
      intro v3 w3 hown3 hgrow3 i3
      have HO3 := hid ((HO.out.alloc _).drew.grow (xs := [be4 a b c d]) rfl hown3 hgrow3)
      refine hK _ _ ⟨HO3.out.bel.block g HL.out.2.1, ?_⟩
      clear hown3 hgrow3 i3 hK K
      go_simp
      refine wpAnyH_take (i := 32) (v := ?v45) rfl (by kernel_rfl) (by kernel_rfl) (by kernel_rfl) (fun _ _ _ h => h) (Or.inl ⟨by rfl, ?hy45⟩) (HO3.out.bel.block g HL.out.2.1) ?rest45
      case hy45 => (intro ww _; go_simp; try with_reducible rfl)
      go_simp
      refine wpAnyH_done (by kernel_rfl) ?_ _
      go_simp
      go_wp2
      refine ⟨⟨q + 1, by have := HW.out.2.2.2; omega, by rw [show ((4 * (q + 1) : Nat) : Int) = (p : Int) + 4 by have := HW.out.2.2.2; omega], by rw [HW.out.1]; exact HO3.out⟩, by simp [intOf]; omega⟩
end Go.Proofs.Ytchlmcpnjpllnaa

/- The document's digest: what its steps need. -/
namespace Go.Proofs.Ytchlmcpnjpllnaa
open Go.RowKit

/-- The bytes l lie at the row's beginning; the row has cap cells, all free. -/
structure BytesAt (w : World) (g cap : Nat) (l : List UInt8) : Prop where
  lt : g < w.heap.size
  cell : ∀ j v, (bC l)[j]? = some v → w.cell? ⟨g, j, none⟩ = some v
  free : ∀ j, j < cap → (w.cell? ⟨g, j, none⟩).isSome = true ∧ w.frozen? ⟨g, j, none⟩ = false
theorem BytesAt.keep {w w' : World} {g cap : Nat} {l : List UInt8} (h : BytesAt w g cap l) (hb : Below w.heap.size w w') : BytesAt w' g cap l :=
  ⟨Nat.lt_of_lt_of_le h.lt hb.size, fun j v hv => (hb.cell (p := ⟨g, j, none⟩) h.lt).trans (h.cell j v hv), fun j hj => by
    rw [hb.cell (p := ⟨g, j, none⟩) h.lt, hb.frozen (p := ⟨g, j, none⟩) h.lt]
    exact h.free j hj⟩

section
variable {o : Oper} {a : Act} {w : World} {Q : Exit → Act → World → Prop} {ops : Array Oper} {rest : List Oper}
/-- A string turned into bytes. -/
theorem wl_bytes (hgd : o.guard = none) (x : Operand) (ho : o.op = .convert 9 57 x) (s : ByteArray) (hx : a.eval x = .string s) (hs : s.size ≤ maxLen)
    (h : ∀ cap w', s.size ≤ cap → Hid (BytesAt w' w.heap.size cap s.data.toList) → Hid (Below w.heap.size w w') → Hid (cap ≤ maxLen) → wpList Try.prog ops Q rest (a.put o.dst (.slice (some ⟨w.heap.size, 0, none⟩) s.size cap)) w') : wpList Try.prog ops Q (o :: rest) a w := by
  refine wpList_plain hgd fun K hK => ?_
  have hr := run_bytes_of_string (P := Try.prog) w 9 57 5 s Try.underlying9 Try.underlying57 Try.underlying5
  have hge := grownCap_ge w s.size 0 5
  have hle := grownCap_le_maxLen w s.size 0 5 hs
  generalize grownCap w s.size 0 5 = cap at hr hge hle
  have hsz : (bytesRow s cap).size = cap := by
    have : s.data.size = s.size := rfl
    simp [bytesRow]; omega
  rw [hsz] at hr
  refine owp_value (v := .slice (some ⟨w.heap.size, 0, none⟩) s.size cap) (w' := w.drew.alloc (.cells (bytesRow s cap) 5 (cap, cap + 1))) ?_ (hK _ _ (h cap _ hge ?_ ?_ hle))
  · simp [execOp, ho, hx, hr, Result.andThen]
  · have hb : (w.drew.alloc (.cells (bytesRow s cap) 5 (cap, cap + 1))).heap[w.heap.size]? = some (.cells (bytesRow s cap) 5 (cap, cap + 1)) := heap_alloc_last w.drew _
    refine (⟨lt_of_blk hb, fun j v hv => ?_, fun j hj => ⟨?_, ?_⟩⟩ : BytesAt _ _ _ _)
    · have hj : j < s.data.size := by have := (List.getElem?_eq_some_iff.1 hv).1; rw [bC_len] at this; exact this
      have e := bytesRow_at s cap j hj
      rw [bC_get _ _ (by exact hj)] at hv
      simp only [World.cell?, hb]
      refine e.trans ?_
      rw [← hv]
      simp [List.getD, Array.getElem?_eq_getElem hj]
    · simp only [World.cell?, hb]
      simp [hsz, hj]
    · simp only [World.frozen?, hb]
      simp
      omega
  · exact ((Below.refl _ _).drew.alloc (Nat.le_refl _) _ : Below w.heap.size w (w.drew.alloc _))
/-- All the bytes: where they lie, whichever way the append went. -/
structure AllAt (w : World) (Bs g cap : Nat) (l : List UInt8) : Prop where
  lt : g < w.heap.size
  ge : Bs ≤ g
  le : l.length ≤ cap
  cell : ∀ j v, (bC l)[j]? = some v → w.cell? ⟨g, j, none⟩ = some v
theorem wl_all (hgd : o.guard = none) (x y : Operand) (ho : o.op = .call { callee := .builtin .append, args := #[x, y], argTypes := #[57, 57] })
    (g n cap : Nat) (hx : a.eval x = .slice (some ⟨g, 0, none⟩) n cap) (A : List UInt8) (hA : A.length = n) (hB : BytesAt w g cap A) (Bs : Nat) (hg : Bs ≤ g)
    (B2 : Nat) (w1 : World) (v2 : Value) (C : List UInt8) (hy : a.eval y = v2) (hC : Owned B2 w1 w v2 C) (hC0 : 0 < C.length) (hsz : n + C.length ≤ 140737488355328)
    (h : ∀ g2 cap2 w', Hid (AllAt w' Bs g2 cap2 (A ++ C)) → Hid (Below Bs w w') → wpList Try.prog ops Q rest (a.put o.dst (.slice (some ⟨g2, 0, none⟩) (n + C.length) cap2)) w') : wpList Try.prog ops Q (o :: rest) a w := by
  obtain ⟨i0, hi0, hz0, hz1, hz2⟩ := info_parts Try.info5
  obtain ⟨gc, cc, rfl, hcell⟩ : ∃ gc cc, v2 = .slice (some ⟨gc, 0, none⟩) C.length cc ∧ ∀ j v, (bC C)[j]? = some v → w.cell? ((⟨gc, 0, none⟩ : Addr).add j) = some v := by
    rcases hC.own.2 with ⟨_, h0⟩ | ⟨gc, cc, cur, hv, _⟩
    · omega
    · exact ⟨gc, cc, hv, fun j v hv2 => by subst hv; exact hC.own.cells (g := gc) rfl j v hv2⟩
  refine wpList_append_arg w hgd x y 57 ho 5 i0 (.int .u8 0) 1 1 Try.underlying57 hi0 hz0 hz1 hz2 rfl (by decide) g 0 n cap (bC A) hx (by rw [bC_len, hA, Nat.mul_one]) (fun j v hv => by rw [Nat.zero_add]; exact hB.cell j v hv) ⟨gc, 0, none⟩ C.length cc (bC C) hy (by rw [bC_len, Nat.mul_one]) hcell (bC_one _)
    (fun hr j hj => by rw [Nat.mul_one, Nat.zero_add]; rw [bC_len] at hj; exact hB.free (n + j) (by omega)) (by unfold maxLen; omega) (by omega) (fun hr => ?_) (fun hr v' w' hown hgrow => ?_)
  · have hsome : ∀ j, j < (bC C).length → (w.cell? ⟨g, (0 + n * 1) + j, none⟩).isSome = true := fun j hj => by
      rw [bC_len] at hj
      rw [Nat.mul_one, Nat.zero_add]
      exact (hB.free (n + j) (by omega)).1
    have hbel : ∀ (vs : List Value) (q : Nat) (u : World), Below Bs w u → Below Bs w (u.setCells g q vs) := by
      intro vs
      induction vs with
      | nil => intro q u hu; exact hu
      | cons v r ih => intro q u hu; exact ih (q + 1) _ (hu.setCell (p := ⟨g, q, none⟩) hg v)
    have hb2 := hbel (bC C) (0 + n * 1) w (Below.refl _ _)
    refine h g cap _ (⟨Nat.lt_of_lt_of_le hB.lt hb2.size, hg, by rw [List.length_append, hA]; exact hr, fun j v hv => ?_⟩ : AllAt _ _ _ _ _) hb2
    rw [bC_app] at hv
    by_cases hj : j < n
    · rw [List.getElem?_append_left (by rw [bC_len, hA]; exact hj)] at hv
      rw [World.cell?_setCells_out g (bC C) _ w ⟨g, j, none⟩ (fun _ _ => .inl (by show j < 0 + n * 1; omega))]
      exact hB.cell j v hv
    · rw [List.getElem?_append_right (by rw [bC_len, hA]; omega), bC_len, hA] at hv
      have hj2 : j - n < (bC C).length := (List.getElem?_eq_some_iff.1 hv).1
      have e := World.cell?_setCells_in g (bC C) (0 + n * 1) w hsome (j - n) hj2
      rw [show 0 + n * 1 + (j - n) = j by omega] at e
      rw [e, ← hv, List.getElem?_eq_getElem hj2]
  · have hbw : Bs ≤ w.heap.size := Nat.le_trans hg (Nat.le_of_lt hB.lt)
    have hb2 : Below Bs w w' := (Below.refl Bs w).grown hgrow hbw (fun k hk => by cases hk)
    rcases hown.2 with ⟨_, h0⟩ | ⟨g2, cap2, cur, hv, hb, hh, hnc, hcp, hcs, htake⟩
    · omega
    · subst hv
      refine h g2 cap2 w' (⟨lt_of_blk hh, Nat.le_trans hbw hb, by rw [List.length_append, hA]; exact hnc, fun j v hv => ?_⟩ : AllAt _ _ _ _ _) hb2
      rw [bC_app] at hv
      have := hown.cells (g := g2) rfl j v hv
      rwa [Addr.add_lit, Nat.zero_add] at this
end

end Go.Proofs.Ytchlmcpnjpllnaa
