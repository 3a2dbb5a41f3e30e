/- A text goes into the digester: the walk. -/
import Derived.Test.YtebhkifjommpjaaShI
import Derived.Deep.RegionLaw
import Derived.Deep.RegionWith
namespace Go.Proofs.Ytebhkifjommpjaa
open Go.RowKit

def strLen : Value → Nat
  | .string s => s.size
  | _ => 0
theorem extract_drop (s : ByteArray) (c : Nat) : (s.extract c s.size).data.toList = s.data.toList.drop c := by
  rw [ByteArray.data_extract, Array.toList_extract]
  simp
  rw [List.take_of_length_le (by simp)]

theorem keepD {w w1 : World} {b : Nat} {L : List Value} {t : TypeId} (h : w1.heap[b]? = some (.cells L.toArray t (0, 0))) (k : Below b w w1) : w1.drew.heap[b]? = some (.cells L.toArray t (0, 0)) ∧ Below b w w1.drew := ⟨h, k.drew⟩
theorem keepD2 {w w1 w2 : World} {b : Nat} {L : List Value} {t : TypeId} (h : w1.heap[b]? = some (.cells L.toArray t (0, 0))) (k : Below b w w1) (hb : Below w1.heap.size w1 w2) : w2.heap[b]? = some (.cells L.toArray t (0, 0)) ∧ Below b w w2 :=
  have hl : b < w1.heap.size := (Array.getElem?_eq_some_iff.1 h).1
  ⟨(hb.block b hl).trans h, k.trans (hb.mono (Nat.le_of_lt hl))⟩

set_option maxRecDepth 100000 in
set_option maxHeartbeats 1600000 in
theorem add_any (b : Nat) (S : St) (B : List UInt8) (k : Nat) (d m : List UInt8) (t : ByteArray) (w : World) (h : Dig w b S B k d m) (hsz : m.length + t.size < 1152921504606846976) :
    Calls Try.prog 59 #[.pointer (some ⟨b, 0, none⟩), .string t] w fun e w' => e = .returned (.tuple #[]) ∧ (∃ S B k d, Dig w' b S B k d (m ++ t.data.toList)) ∧ Below b w w' := by
  obtain ⟨M, eM⟩ : ∃ M, M = m ++ t.data.toList := ⟨_, rfl⟩
  have hN : M.length = m.length + t.size := by rw [eM, List.length_append, data_len]
  have c73 := cell_at h.blk 73 _ (dg_total S B k m.length h.len)
  have f73 := free_at h.blk 73
  have hs0 : (0 : Int) ≤ (m.length : Int) := Int.natCast_nonneg _
  have hs1 : (m.length : Int) + (t.size : Int) < 18446744073709551616 := by omega
  have H0 := hid h
  have HM := hid (And.intro eM hN)
  have HZ := hid hsz
  rw [← eM]
  clear h eM hN hsz
  go_enter Try.func59, Try.ntmps59
  go_wp2
  go_loopw [1] (fun v wr => ∃ (s : ByteArray) (S : St) (B : List UInt8) (k : Nat) (d : List UInt8), v = .string s ∧ wr.heap[b]? = some (.cells (dgC S B k M.length).toArray 86 (0, 0)) ∧ B.length = 64 ∧ k < 64 ∧ S = hashB .start d ∧ (∃ q, d.length = 64 * q) ∧ (d ++ B.take k) ++ s.data.toList = M ∧ Below b w wr)
    (fun v _ => strLen v)
  case atStart =>
    refine ⟨t, S, B, k, d, rfl, ?_, H0.out.len, H0.out.lt, H0.out.st, H0.out.whole, by rw [H0.out.all, HM.out.1], Below.setCell (p := ⟨b, 73, none⟩) (Below.refl _ _) (Nat.le_refl _) _⟩
    refine (blk_set H0.out.blk _ _).trans ?_
    rw [arr_set, show ((m.length : Int) + (t.size : Int)) = ((M.length : Nat) : Int) by rw [HM.out.2]; omega, dg_set_total _ _ _ _ _ H0.out.len]
  case round =>
    clear H0 c73 f73 hs0 hs1 S B k d
    obtain ⟨s, S, B, k, d, rfl, hb, hB, hk, hS, hq, ha, hbel⟩ := hrel
    have H := hid (And.intro hb (And.intro hB (And.intro hS (And.intro hq (And.intro ha hbel)))))
    clear hb hB hS hq ha hbel
    by_cases hs : s.size = 0
    · have hs2 : ¬ ((0 : Int) < (s.size : Int)) := by omega
      have HS := hid hs
      clear hs
      go_wp2
      go_end0
      have e0 : s.data.toList = [] := List.eq_nil_of_length_eq_zero (by rw [data_len]; exact HS.out)
      have ha := H.out.2.2.2.2.1
      rw [e0, List.append_nil] at ha
      exact ⟨rfl, ⟨S, B, k, d, H.out.1, H.out.2.1, hk, H.out.2.2.1, H.out.2.2.2.1, ha⟩, H.out.2.2.2.2.2⟩
    · have hs2 : (0 : Int) < (s.size : Int) := by omega
      obtain ⟨xs, ex⟩ : ∃ xs, xs = s.data.toList.take (64 - k) := ⟨_, rfl⟩
      obtain ⟨c, ec⟩ : ∃ c, c = xs.length := ⟨_, rfl⟩
      have hc : c = min (64 - k) s.size := by rw [ec, ex, List.length_take, data_len]
      have hc1 : 0 < c := by omega
      have hkc : k + c ≤ 64 := by omega
      have hcs : (c : Int) ≤ (s.size : Int) := by omega
      have hc0 : (0 : Int) ≤ (c : Int) := Int.natCast_nonneg _
      have hk0 : (0 : Int) ≤ (k : Int) := Int.natCast_nonneg _
      have hk64 : (k : Int) ≤ 64 := by omega
      have hkn : ¬ (64 = k) := by omega
      have c72 := cell_at H.out.1 72 _ (dg_used S B k M.length H.out.2.1)
      have HX := hid (And.intro ex (And.intro ec (And.intro hc (And.intro hc1 hkc))))
      clear ex ec hc hc1 hkc hs
      go_wp2
      go_region_law (refine step_of rfl (owp_copy_prefix _ _ 55 9 rfl b (8 + k) (64 - k) (64 - k) rfl s rfl 5 (dgC S B k M.length) (bC xs) 86 Try.underlying55 Try.size5 H.out.1 (by rw [HX.out.1]; rfl) (by rw [bC_len, dg_len _ _ _ _ H.out.2.1, ← HX.out.2.1]; have := HX.out.2.2.2.2; omega) ?_); intro w4 h4 e4)
      rw [show (bC xs).length = c by rw [bC_len, ← HX.out.2.1]]
      obtain ⟨B2, eB2⟩ : ∃ B2, B2 = splice B k xs := ⟨_, rfl⟩
      have hxl : k + xs.length ≤ 64 := by rw [← HX.out.2.1]; exact HX.out.2.2.2.2
      have hl2 : B2.length = 64 := by rw [eB2, length_splice _ _ _ (by rw [H.out.2.1]; exact hxl), H.out.2.1]
      have hb4 : w4.heap[b]? = some (.cells (dgC S B2 k M.length).toArray 86 (0, 0)) := by
        rw [eB2, ← dg_copy _ _ _ _ _ _ H.out.2.1 hxl]
        exact h4.out
      have ht2 : B2.take (k + c) = B.take k ++ xs := by
        rw [eB2, HX.out.2.1]
        exact splice_take B xs k (by rw [H.out.2.1]; exact hxl)
      have hbel : Below b w w4 := by
        rw [e4.out]
        exact Below.setRow H.out.2.2.2.2.2.drew (Nat.le_refl _) _
      have hrest : xs ++ (s.extract c s.size).data.toList = s.data.toList := by
        rw [extract_drop]
        by_cases hcz : 64 - k ≤ s.size
        · have : c = 64 - k := by have := HX.out.2.2.1; omega
          rw [this, HX.out.1, List.take_append_drop]
        · have : c = s.size := by have := HX.out.2.2.1; omega
          rw [this, ← data_len, List.drop_length, List.append_nil, HX.out.1]
          exact List.take_of_length_le (by rw [data_len]; omega)
      have d72 := cell_at hb4 72 _ (dg_used S B2 k M.length hl2)
      have g72 := free_at hb4 72
      have H4 := hid (And.intro hb4 (And.intro hl2 (And.intro ht2 (And.intro hbel hrest))))
      clear hb4 hl2 ht2 hbel hrest hxl eB2 h4 e4 c72
      by_cases hf : k + c = 64
      · have hff : (k : Int) + (c : Int) = 64 := by omega
        have HF := hid hf
        clear hf
        go_wp2
        generalize hw5 : w4.setCell ⟨b, 72, none⟩ (.int .i64 64) = w5
        have hb5 : w5.heap[b]? = some (.cells (dgC S B2 64 M.length).toArray 86 (0, 0)) := by
          rw [← hw5]
          refine (blk_set H4.out.1 _ _).trans ?_
          rw [arr_set, show (64 : Int) = ((64 : Nat) : Int) from rfl, dg_set_used _ _ _ _ _ H4.out.2.1]
        have hbel5 : Below b w w5 := by rw [← hw5]; exact H4.out.2.2.2.1.setCell (p := ⟨b, 72, none⟩) (Nat.le_refl _) _
        have H5 := hid (And.intro hb5 hbel5)
        clear hb5 hbel5 hw5
        refine wp_region_any (by kernel_rfl) ?_
        try (change wpAny _ _ _ _ _ _ _ (World.drew _))
        have HD := hid (keepD H5.out.1 H5.out.2)
        obtain ⟨W2, eW2⟩ : ∃ x, x = sched B2 := ⟨_, rfl⟩
        obtain ⟨S2, eS2⟩ : ∃ x, x = behindW S W2 := ⟨_, rfl⟩
        have HC9 : Hid (∀ w, Calls Try.prog 65 #[.agg (bC B2).toArray] w fun e w' => e = .returned (.agg (uC W2).toArray) ∧ Below w.heap.size w w') := hid (by rw [eW2]; exact schedule_any B2 H4.out.2.1)
        have HC10 : Hid (∀ w, Calls Try.prog 64 #[.agg (uC S.list).toArray, .agg (uC W2).toArray] w fun e w' => e = .returned (.agg (uC S2.list).toArray) ∧ Below w.heap.size w w') := hid (by rw [eS2]; exact behind_any S W2 (by rw [eW2, sched_len B2 H4.out.2.1]))
        have HS2 : Hid (S2 = hashB .start (d ++ B2)) := hid (by
          obtain ⟨q, hq⟩ := H.out.2.2.2.1
          rw [hashB_app _ _ _ q hq, ← H.out.2.2.1, ← List.append_nil B2, hashB_cons _ _ _ H4.out.2.1, hashB_short _ _ (by decide), eS2, eW2, step])
        have HA2 : Hid ((d ++ B2 ++ B2.take 0) ++ (s.extract c s.size).data.toList = M) := hid (by
          have e2 : B2 = B.take k ++ xs := by
            rw [← H4.out.2.2.1, HF.out]
            exact (List.take_of_length_le (by rw [H4.out.2.1]; exact Nat.le_refl _)).symm
          rw [List.take_zero, List.append_nil, ← H.out.2.2.2.2.1, e2, List.append_assoc, List.append_assoc, H4.out.2.2.2.2, List.append_assoc])
        clear eW2 eS2
        refine wpAny_take (i := 0) (oi := { dst := some 44, op := .move (.tmp 0), type := 90, pos := "sha.go:80", after := #[], guard := none }) (v := .pointer (some ⟨b, 0, none⟩)) rfl (by kernel_rfl) (by kernel_rfl) (by kernel_rfl) (fun _ _ _ h => h) (Or.inl ⟨by rfl, ?_⟩) ?_
        · intro w; go_simp
        refine wpAny_take (i := 1) (oi := { dst := some 45, op := .move (.tmp 0), type := 90, pos := "sha.go:80", after := #[], guard := none }) (v := .pointer (some ⟨b, 0, none⟩)) rfl (by kernel_rfl) (by kernel_rfl) (by kernel_rfl) (fun _ _ _ h => h) (Or.inl ⟨by rfl, ?_⟩) ?_
        · intro w; go_simp
        refine wpAny_take (i := 2) (oi := { dst := some 46, op := .nilCheck (.tmp 45), type := 0, pos := "sha.go:80", after := #[{ on := 1, ground := .data }], guard := none }) (v := .pointer (some ⟨b, 0, none⟩)) rfl (by kernel_rfl) (by kernel_rfl) (by kernel_rfl) (fun _ _ _ h => h) (Or.inl ⟨by rfl, ?_⟩) ?_
        · intro w; go_simp
        refine wpAny_take (i := 3) (oi := { dst := some 47, op := .fieldAddr 86 (.tmp 46) 0, type := 0, pos := "sha.go:80", after := #[{ on := 2, ground := .data }], guard := none }) (v := .pointer (some ⟨b, 0, none⟩)) rfl (by kernel_rfl) (by kernel_rfl) (by kernel_rfl) (fun _ _ _ h => h) (Or.inl ⟨by rfl, ?_⟩) ?_
        · intro w; go_simp
        refine wpAny_take (i := 5) (oi := { dst := some 49, op := .move (.tmp 0), type := 90, pos := "sha.go:80", after := #[], guard := none }) (v := .pointer (some ⟨b, 0, none⟩)) rfl (by kernel_rfl) (by kernel_rfl) (by kernel_rfl) (fun _ _ _ h => h) (Or.inl ⟨by rfl, ?_⟩) ?_
        · intro w; go_simp
        refine wpAny_take (i := 6) (oi := { dst := some 50, op := .nilCheck (.tmp 49), type := 0, pos := "sha.go:80", after := #[{ on := 5, ground := .data }], guard := none }) (v := .pointer (some ⟨b, 0, none⟩)) rfl (by kernel_rfl) (by kernel_rfl) (by kernel_rfl) (fun _ _ _ h => h) (Or.inl ⟨by rfl, ?_⟩) ?_
        · intro w; go_simp
        refine wpAny_take (i := 7) (oi := { dst := some 51, op := .fieldAddr 86 (.tmp 50) 1, type := 0, pos := "sha.go:80", after := #[{ on := 6, ground := .data }], guard := none }) (v := .pointer (some ⟨b, 8, none⟩)) rfl (by kernel_rfl) (by kernel_rfl) (by kernel_rfl) (fun _ _ _ h => h) (Or.inl ⟨by rfl, ?_⟩) ?_
        · intro w; go_simp
        go_simp
        refine wpAny_ready (rs := [4, 8]) (by kernel_rfl) (by simp) ?_
        refine AllReady.cons (o := { dst := some 48, op := .load 81 (.tmp 47), type := 81, pos := "sha.go:80", after := #[{ on := 3, ground := .data }], guard := none }) rfl (fun K hK => ?_) ?_
        · refine step_of rfl ?_
          refine (owp_load_row 81 _ rfl b 0 rfl (uC S.list) _ Try.underlying81 rfl 8 (by rw [uC_len]; exact list_len S) Try.size81 (fun j v hv => cell_at HD.out.1 _ _ (dg_state S B2 64 M.length j v hv)) (hK _ _ ?_))
          clear hK K
          go_simp
          refine wpAny_ready (rs := [8]) (by kernel_rfl) (by simp) ?_
          refine AllReady.cons (o := { dst := some 52, op := .load 83 (.tmp 51), type := 83, pos := "sha.go:80", after := #[{ on := 7, ground := .data }], guard := none }) rfl (fun K hK => ?_) ?_
          · refine step_of rfl ?_
            refine (owp_load_row 83 _ rfl b 8 rfl (bC B2) _ Try.underlying83 rfl 64 (by rw [bC_len]; exact H4.out.2.1) Try.size83 (fun j v hv => cell_at HD.out.1 _ _ (dg_block S B2 64 M.length j v hv)) (hK _ _ ?_))
            clear hK K
            go_simp
            refine wpAny_ready (rs := [9]) (by kernel_rfl) (by simp) ?_
            refine AllReady.cons (o := { dst := some 53, op := .call { callee := .value (.func 65), args := #[.tmp 52], argTypes := #[83] }, type := 92, pos := "sha.go:80", after := #[{ on := 8, ground := .data }], guard := none }) rfl (fun K hK => ?_) ?_
            · refine step_of rfl ?_
              go_simp
              refine (HC9.out _).mono ?_
              rintro e w6 ⟨rfl, hb6⟩
              have H6 := hid (keepD2 HD.out.1 HD.out.2 hb6)
              clear hb6
              refine hK _ _ ?_
              clear hK K
              refine wpAny_ready (rs := [10]) (by kernel_rfl) (by simp) ?_
              refine AllReady.cons (o := { dst := some 54, op := .call { callee := .value (.func 64), args := #[.tmp 48, .tmp 53], argTypes := #[81, 92] }, type := 81, pos := "sha.go:80", after := #[{ on := 4, ground := .data }, { on := 9, ground := .data }, { on := 9, ground := .chain }], guard := none }) rfl (fun K hK => ?_) ?_
              · refine step_of rfl ?_
                go_simp
                refine (HC10.out _).mono ?_
                rintro e w7 ⟨rfl, hb7⟩
                have H7 := hid (keepD2 H6.out.1 H6.out.2 hb7)
                clear hb7
                refine hK _ _ ?_
                clear hK K
                refine wpAny_take (i := 11) (oi := { dst := some 55, op := .nilCheck (.tmp 44), type := 0, pos := "sha.go:80", after := #[{ on := 0, ground := .data }, { on := 0, ground := .phase }, { on := 1, ground := .phase }, { on := 2, ground := .phase }, { on := 3, ground := .phase }, { on := 4, ground := .phase }, { on := 5, ground := .phase }, { on := 6, ground := .phase }, { on := 7, ground := .phase }, { on := 8, ground := .phase }, { on := 9, ground := .phase }, { on := 10, ground := .phase }], guard := none }) (v := .pointer (some ⟨b, 0, none⟩)) rfl (by kernel_rfl) (by kernel_rfl) (by kernel_rfl) (fun _ _ _ h => h) (Or.inl ⟨by rfl, ?_⟩) ?_
                · intro w; go_simp
                refine wpAny_take (i := 12) (oi := { dst := some 56, op := .fieldAddr 86 (.tmp 55) 0, type := 0, pos := "sha.go:80", after := #[{ on := 11, ground := .data }, { on := 0, ground := .phase }, { on := 1, ground := .phase }, { on := 2, ground := .phase }, { on := 3, ground := .phase }, { on := 4, ground := .phase }, { on := 5, ground := .phase }, { on := 6, ground := .phase }, { on := 7, ground := .phase }, { on := 8, ground := .phase }, { on := 9, ground := .phase }, { on := 10, ground := .phase }], guard := none }) (v := .pointer (some ⟨b, 0, none⟩)) rfl (by kernel_rfl) (by kernel_rfl) (by kernel_rfl) (fun _ _ _ h => h) (Or.inl ⟨by rfl, ?_⟩) ?_
                · intro w; go_simp
                go_simp
                refine wpAny_ready (rs := [13]) (by kernel_rfl) (by simp) ?_
                refine AllReady.cons (o := { dst := none, op := .store 81 (.tmp 56) (.tmp 54), type := 0, pos := "sha.go:80", after := #[{ on := 12, ground := .data }, { on := 10, ground := .data }, { on := 10, ground := .chain }, { on := 0, ground := .phase }, { on := 1, ground := .phase }, { on := 2, ground := .phase }, { on := 3, ground := .phase }, { on := 4, ground := .phase }, { on := 5, ground := .phase }, { on := 6, ground := .phase }, { on := 7, ground := .phase }, { on := 8, ground := .phase }, { on := 9, ground := .phase }, { on := 10, ground := .phase }], guard := none }) rfl (fun K hK => ?_) ?_
                · refine step_of rfl ?_
                  refine owp_store_row 81 _ _ rfl b 0 rfl 86 (dgC S B2 64 M.length) (uC S2.list) rfl H7.out.1 8 (by rw [uC_len]; exact list_len S2) Try.size81 (by rw [dg_len _ _ _ _ H4.out.2.1]; decide) (uC_one _) ?_
                  intro w8 h8 e8
                  refine hK _ _ ?_
                  clear hK K
                  have hb8 : w8.heap[b]? = some (.cells (dgC S2 B2 64 M.length).toArray 86 (0, 0)) := by
                    rw [← dg_put S S2]; exact h8.out
                  have hl8 : Below b w w8 := by rw [e8.out]; exact Below.setRow H7.out.2 (Nat.le_refl _) _
                  have z8 := cell_at hb8 72 _ (dg_used S2 B2 64 M.length H4.out.2.1)
                  have y8 := free_at hb8 72
                  have H8 := hid (And.intro hb8 hl8)
                  clear hb8 hl8 h8 e8
                  refine wpAny_done (by kernel_rfl) ?_ _
                  go_simp
                  go_wp2
                  go_roundw
                  case rel =>
                    refine ⟨s.extract c s.size, S2, B2, 0, d ++ B2, rfl, ?_, H4.out.2.1, by omega, ?_, ?_, ?_, H8.out.2.setCell (p := ⟨b, 72, none⟩) (Nat.le_refl _) _⟩
                    · refine (blk_set H8.out.1 _ _).trans ?_
                      rw [arr_set, show (0 : Int) = ((0 : Nat) : Int) from rfl, dg_set_used _ _ _ _ _ H4.out.2.1]
                    · exact HS2.out
                    · obtain ⟨q, hq⟩ := H.out.2.2.2.1
                      exact ⟨q + 1, by rw [List.length_append, hq, H4.out.2.1]; omega⟩
                    · exact HA2.out
                  case measure =>
                    have := HX.out.2.2.2.1
                    simp [strLen]
                    omega
                exact AllReady.nil
              exact AllReady.nil
            exact AllReady.nil
          exact AllReady.nil
        refine AllReady.cons (o := { dst := some 52, op := .load 83 (.tmp 51), type := 83, pos := "sha.go:80", after := #[{ on := 7, ground := .data }], guard := none }) rfl (fun K hK => ?_) ?_
        · refine step_of rfl ?_
          refine (owp_load_row 83 _ rfl b 8 rfl (bC B2) _ Try.underlying83 rfl 64 (by rw [bC_len]; exact H4.out.2.1) Try.size83 (fun j v hv => cell_at HD.out.1 _ _ (dg_block S B2 64 M.length j v hv)) (hK _ _ ?_))
          clear hK K
          go_simp
          refine wpAny_ready (rs := [4, 9]) (by kernel_rfl) (by simp) ?_
          refine AllReady.cons (o := { dst := some 48, op := .load 81 (.tmp 47), type := 81, pos := "sha.go:80", after := #[{ on := 3, ground := .data }], guard := none }) rfl (fun K hK => ?_) ?_
          · refine step_of rfl ?_
            refine (owp_load_row 81 _ rfl b 0 rfl (uC S.list) _ Try.underlying81 rfl 8 (by rw [uC_len]; exact list_len S) Try.size81 (fun j v hv => cell_at HD.out.1 _ _ (dg_state S B2 64 M.length j v hv)) (hK _ _ ?_))
            clear hK K
            go_simp
            refine wpAny_ready (rs := [9]) (by kernel_rfl) (by simp) ?_
            refine AllReady.cons (o := { dst := some 53, op := .call { callee := .value (.func 65), args := #[.tmp 52], argTypes := #[83] }, type := 92, pos := "sha.go:80", after := #[{ on := 8, ground := .data }], guard := none }) rfl (fun K hK => ?_) ?_
            · refine step_of rfl ?_
              go_simp
              refine (HC9.out _).mono ?_
              rintro e w6 ⟨rfl, hb6⟩
              have H6 := hid (keepD2 HD.out.1 HD.out.2 hb6)
              clear hb6
              refine hK _ _ ?_
              clear hK K
              refine wpAny_ready (rs := [10]) (by kernel_rfl) (by simp) ?_
              refine AllReady.cons (o := { dst := some 54, op := .call { callee := .value (.func 64), args := #[.tmp 48, .tmp 53], argTypes := #[81, 92] }, type := 81, pos := "sha.go:80", after := #[{ on := 4, ground := .data }, { on := 9, ground := .data }, { on := 9, ground := .chain }], guard := none }) rfl (fun K hK => ?_) ?_
              · refine step_of rfl ?_
                go_simp
                refine (HC10.out _).mono ?_
                rintro e w7 ⟨rfl, hb7⟩
                have H7 := hid (keepD2 H6.out.1 H6.out.2 hb7)
                clear hb7
                refine hK _ _ ?_
                clear hK K
                refine wpAny_take (i := 11) (oi := { dst := some 55, op := .nilCheck (.tmp 44), type := 0, pos := "sha.go:80", after := #[{ on := 0, ground := .data }, { on := 0, ground := .phase }, { on := 1, ground := .phase }, { on := 2, ground := .phase }, { on := 3, ground := .phase }, { on := 4, ground := .phase }, { on := 5, ground := .phase }, { on := 6, ground := .phase }, { on := 7, ground := .phase }, { on := 8, ground := .phase }, { on := 9, ground := .phase }, { on := 10, ground := .phase }], guard := none }) (v := .pointer (some ⟨b, 0, none⟩)) rfl (by kernel_rfl) (by kernel_rfl) (by kernel_rfl) (fun _ _ _ h => h) (Or.inl ⟨by rfl, ?_⟩) ?_
                · intro w; go_simp
                refine wpAny_take (i := 12) (oi := { dst := some 56, op := .fieldAddr 86 (.tmp 55) 0, type := 0, pos := "sha.go:80", after := #[{ on := 11, ground := .data }, { on := 0, ground := .phase }, { on := 1, ground := .phase }, { on := 2, ground := .phase }, { on := 3, ground := .phase }, { on := 4, ground := .phase }, { on := 5, ground := .phase }, { on := 6, ground := .phase }, { on := 7, ground := .phase }, { on := 8, ground := .phase }, { on := 9, ground := .phase }, { on := 10, ground := .phase }], guard := none }) (v := .pointer (some ⟨b, 0, none⟩)) rfl (by kernel_rfl) (by kernel_rfl) (by kernel_rfl) (fun _ _ _ h => h) (Or.inl ⟨by rfl, ?_⟩) ?_
                · intro w; go_simp
                go_simp
                refine wpAny_ready (rs := [13]) (by kernel_rfl) (by simp) ?_
                refine AllReady.cons (o := { dst := none, op := .store 81 (.tmp 56) (.tmp 54), type := 0, pos := "sha.go:80", after := #[{ on := 12, ground := .data }, { on := 10, ground := .data }, { on := 10, ground := .chain }, { on := 0, ground := .phase }, { on := 1, ground := .phase }, { on := 2, ground := .phase }, { on := 3, ground := .phase }, { on := 4, ground := .phase }, { on := 5, ground := .phase }, { on := 6, ground := .phase }, { on := 7, ground := .phase }, { on := 8, ground := .phase }, { on := 9, ground := .phase }, { on := 10, ground := .phase }], guard := none }) rfl (fun K hK => ?_) ?_
                · refine step_of rfl ?_
                  refine owp_store_row 81 _ _ rfl b 0 rfl 86 (dgC S B2 64 M.length) (uC S2.list) rfl H7.out.1 8 (by rw [uC_len]; exact list_len S2) Try.size81 (by rw [dg_len _ _ _ _ H4.out.2.1]; decide) (uC_one _) ?_
                  intro w8 h8 e8
                  refine hK _ _ ?_
                  clear hK K
                  have hb8 : w8.heap[b]? = some (.cells (dgC S2 B2 64 M.length).toArray 86 (0, 0)) := by
                    rw [← dg_put S S2]; exact h8.out
                  have hl8 : Below b w w8 := by rw [e8.out]; exact Below.setRow H7.out.2 (Nat.le_refl _) _
                  have z8 := cell_at hb8 72 _ (dg_used S2 B2 64 M.length H4.out.2.1)
                  have y8 := free_at hb8 72
                  have H8 := hid (And.intro hb8 hl8)
                  clear hb8 hl8 h8 e8
                  refine wpAny_done (by kernel_rfl) ?_ _
                  go_simp
                  go_wp2
                  go_roundw
                  case rel =>
                    refine ⟨s.extract c s.size, S2, B2, 0, d ++ B2, rfl, ?_, H4.out.2.1, by omega, ?_, ?_, ?_, H8.out.2.setCell (p := ⟨b, 72, none⟩) (Nat.le_refl _) _⟩
                    · refine (blk_set H8.out.1 _ _).trans ?_
                      rw [arr_set, show (0 : Int) = ((0 : Nat) : Int) from rfl, dg_set_used _ _ _ _ _ H4.out.2.1]
                    · exact HS2.out
                    · obtain ⟨q, hq⟩ := H.out.2.2.2.1
                      exact ⟨q + 1, by rw [List.length_append, hq, H4.out.2.1]; omega⟩
                    · exact HA2.out
                  case measure =>
                    have := HX.out.2.2.2.1
                    simp [strLen]
                    omega
                exact AllReady.nil
              exact AllReady.nil
            exact AllReady.nil
          refine AllReady.cons (o := { dst := some 53, op := .call { callee := .value (.func 65), args := #[.tmp 52], argTypes := #[83] }, type := 92, pos := "sha.go:80", after := #[{ on := 8, ground := .data }], guard := none }) rfl (fun K hK => ?_) ?_
          · refine step_of rfl ?_
            go_simp
            refine (HC9.out _).mono ?_
            rintro e w6 ⟨rfl, hb6⟩
            have H6 := hid (keepD2 HD.out.1 HD.out.2 hb6)
            clear hb6
            refine hK _ _ ?_
            clear hK K
            refine wpAny_ready (rs := [4]) (by kernel_rfl) (by simp) ?_
            refine AllReady.cons (o := { dst := some 48, op := .load 81 (.tmp 47), type := 81, pos := "sha.go:80", after := #[{ on := 3, ground := .data }], guard := none }) rfl (fun K hK => ?_) ?_
            · refine step_of rfl ?_
              refine (owp_load_row 81 _ rfl b 0 rfl (uC S.list) _ Try.underlying81 rfl 8 (by rw [uC_len]; exact list_len S) Try.size81 (fun j v hv => cell_at H6.out.1 _ _ (dg_state S B2 64 M.length j v hv)) (hK _ _ ?_))
              clear hK K
              go_simp
              refine wpAny_ready (rs := [10]) (by kernel_rfl) (by simp) ?_
              refine AllReady.cons (o := { dst := some 54, op := .call { callee := .value (.func 64), args := #[.tmp 48, .tmp 53], argTypes := #[81, 92] }, type := 81, pos := "sha.go:80", after := #[{ on := 4, ground := .data }, { on := 9, ground := .data }, { on := 9, ground := .chain }], guard := none }) rfl (fun K hK => ?_) ?_
              · refine step_of rfl ?_
                go_simp
                refine (HC10.out _).mono ?_
                rintro e w7 ⟨rfl, hb7⟩
                have H7 := hid (keepD2 H6.out.1 H6.out.2 hb7)
                clear hb7
                refine hK _ _ ?_
                clear hK K
                refine wpAny_take (i := 11) (oi := { dst := some 55, op := .nilCheck (.tmp 44), type := 0, pos := "sha.go:80", after := #[{ on := 0, ground := .data }, { on := 0, ground := .phase }, { on := 1, ground := .phase }, { on := 2, ground := .phase }, { on := 3, ground := .phase }, { on := 4, ground := .phase }, { on := 5, ground := .phase }, { on := 6, ground := .phase }, { on := 7, ground := .phase }, { on := 8, ground := .phase }, { on := 9, ground := .phase }, { on := 10, ground := .phase }], guard := none }) (v := .pointer (some ⟨b, 0, none⟩)) rfl (by kernel_rfl) (by kernel_rfl) (by kernel_rfl) (fun _ _ _ h => h) (Or.inl ⟨by rfl, ?_⟩) ?_
                · intro w; go_simp
                refine wpAny_take (i := 12) (oi := { dst := some 56, op := .fieldAddr 86 (.tmp 55) 0, type := 0, pos := "sha.go:80", after := #[{ on := 11, ground := .data }, { on := 0, ground := .phase }, { on := 1, ground := .phase }, { on := 2, ground := .phase }, { on := 3, ground := .phase }, { on := 4, ground := .phase }, { on := 5, ground := .phase }, { on := 6, ground := .phase }, { on := 7, ground := .phase }, { on := 8, ground := .phase }, { on := 9, ground := .phase }, { on := 10, ground := .phase }], guard := none }) (v := .pointer (some ⟨b, 0, none⟩)) rfl (by kernel_rfl) (by kernel_rfl) (by kernel_rfl) (fun _ _ _ h => h) (Or.inl ⟨by rfl, ?_⟩) ?_
                · intro w; go_simp
                go_simp
                refine wpAny_ready (rs := [13]) (by kernel_rfl) (by simp) ?_
                refine AllReady.cons (o := { dst := none, op := .store 81 (.tmp 56) (.tmp 54), type := 0, pos := "sha.go:80", after := #[{ on := 12, ground := .data }, { on := 10, ground := .data }, { on := 10, ground := .chain }, { on := 0, ground := .phase }, { on := 1, ground := .phase }, { on := 2, ground := .phase }, { on := 3, ground := .phase }, { on := 4, ground := .phase }, { on := 5, ground := .phase }, { on := 6, ground := .phase }, { on := 7, ground := .phase }, { on := 8, ground := .phase }, { on := 9, ground := .phase }, { on := 10, ground := .phase }], guard := none }) rfl (fun K hK => ?_) ?_
                · refine step_of rfl ?_
                  refine owp_store_row 81 _ _ rfl b 0 rfl 86 (dgC S B2 64 M.length) (uC S2.list) rfl H7.out.1 8 (by rw [uC_len]; exact list_len S2) Try.size81 (by rw [dg_len _ _ _ _ H4.out.2.1]; decide) (uC_one _) ?_
                  intro w8 h8 e8
                  refine hK _ _ ?_
                  clear hK K
                  have hb8 : w8.heap[b]? = some (.cells (dgC S2 B2 64 M.length).toArray 86 (0, 0)) := by
                    rw [← dg_put S S2]; exact h8.out
                  have hl8 : Below b w w8 := by rw [e8.out]; exact Below.setRow H7.out.2 (Nat.le_refl _) _
                  have z8 := cell_at hb8 72 _ (dg_used S2 B2 64 M.length H4.out.2.1)
                  have y8 := free_at hb8 72
                  have H8 := hid (And.intro hb8 hl8)
                  clear hb8 hl8 h8 e8
                  refine wpAny_done (by kernel_rfl) ?_ _
                  go_simp
                  go_wp2
                  go_roundw
                  case rel =>
                    refine ⟨s.extract c s.size, S2, B2, 0, d ++ B2, rfl, ?_, H4.out.2.1, by omega, ?_, ?_, ?_, H8.out.2.setCell (p := ⟨b, 72, none⟩) (Nat.le_refl _) _⟩
                    · refine (blk_set H8.out.1 _ _).trans ?_
                      rw [arr_set, show (0 : Int) = ((0 : Nat) : Int) from rfl, dg_set_used _ _ _ _ _ H4.out.2.1]
                    · exact HS2.out
                    · obtain ⟨q, hq⟩ := H.out.2.2.2.1
                      exact ⟨q + 1, by rw [List.length_append, hq, H4.out.2.1]; omega⟩
                    · exact HA2.out
                  case measure =>
                    have := HX.out.2.2.2.1
                    simp [strLen]
                    omega
                exact AllReady.nil
              exact AllReady.nil
            exact AllReady.nil
          exact AllReady.nil
        exact AllReady.nil
      · have hff : ¬ ((k : Int) + (c : Int) = 64) := by omega
        have hfl : (k : Int) + (c : Int) < 64 := by have := HX.out.2.2.2.2; omega
        have HF := hid hf
        clear hf
        go_wp2
        go_roundw
        case rel =>
          refine ⟨s.extract c s.size, S, B2, k + c, d, rfl, ?_, H4.out.2.1, by have := HX.out.2.2.2.2; have := HF.out; omega, H.out.2.2.1, H.out.2.2.2.1, ?_, H4.out.2.2.2.1.setCell (p := ⟨b, 72, none⟩) (Nat.le_refl _) _⟩
          · refine (blk_set H4.out.1 _ _).trans ?_
            rw [arr_set, show ((k : Int) + (c : Int)) = ((k + c : Nat) : Int) by omega, dg_set_used _ _ _ _ _ H4.out.2.1]
          · rw [H4.out.2.2.1, ← H.out.2.2.2.2.1, List.append_assoc, List.append_assoc, H4.out.2.2.2.2, List.append_assoc]
        case measure =>
          have := HX.out.2.2.2.1
          simp [strLen]
          omega
end Go.Proofs.Ytebhkifjommpjaa
