/- The program's signers: Sign. -/
import Derived.Test.YtchlmcpnjpllnaaX11
import Derived.OrdersHeld
namespace Go.Proofs.Ytchlmcpnjpllnaa
open Go.RowKit

theorem one_text (b : Nat) (hb : b < 256) (v : World) (g : Nat) (hg : v.cell? ⟨g, 0, none⟩ = some (.int .u8 (b : Int))) :
    (convert 57 9 (.slice (some ⟨g, 0, none⟩) 1 1)).run Try.prog v = .ok (.string ⟨#[UInt8.ofNat b]⟩) v := by
  refine row_text v g 1 [UInt8.ofNat b] (fun j x hx => ?_) 1 rfl
  have e : bC [UInt8.ofNat b] = [.int .u8 (b : Int)] := by
    show [Value.int .u8 ((UInt8.ofNat b).toNat : Int)] = _
    rw [byte_in b hb]
  rw [e] at hx
  cases j with
  | zero => simp at hx; rw [← hx]; exact hg
  | succ j => simp at hx
theorem wrap8 (x : Int) (h0 : 0 ≤ x) (h1 : x < 256) : IntKind.u8.wrap x = x := by
  simp [IntKind.wrap, IntKind.bits, IntKind.signed]
  omega
theorem gsig_parts (seed : ByteArray) (h u : Nat) (t : ByteArray) : (⟨#[UInt8.ofNat u]⟩ : ByteArray) ++ ⟨(signB seed u t).toArray⟩ ++ ⟨(pathB (leafL seed h) u h).toArray⟩ = gsigS seed h u t := by
  apply ByteArray.ext
  apply Array.ext'
  rw [ByteArray.data_append, Array.toList_append, ByteArray.data_append, Array.toList_append, gsigS, mk_data, gsignB]
  rfl
theorem ssign_spent (b : Nat) (seed : ByteArray) (h u : Nat) (hh : h ≤ 5) (hu : u = 2 ^ h) (t : ByteArray) (w : World) (hS : SgAt w b seed h u) :
    Calls Try.prog 24 #[.pointer (some ⟨b, 0, none⟩), .string t] w fun e w' => e = .returned (.tuple #[.string ⟨#[]⟩, .int .i64 11]) ∧ Below w.heap.size w w' := by
  have HL : Hid (Calls Try.prog 54 #[.pointer (some ⟨b, 0, none⟩)] w fun e w' => e = .returned (.int .i64 0) ∧ Below w.heap.size w w') := hid (sleft_le b seed h u 0 hh (by omega) w hS)
  clear hS hu hh
  go_enter Try.func24, Try.ntmps24
  go_wp2_with (go_at_call 54; refine HL.out.mono ?_; rintro e w1 ⟨rfl, hb1⟩; have H1 := hid hb1; clear hb1)
  go_ret2
  exact ⟨rfl, H1.out⟩
set_option maxRecDepth 100000 in
set_option maxHeartbeats 3200000 in
theorem ssign_yes (b : Nat) (seed : ByteArray) (hs : seed.size ≤ 1000000) (h u : Nat) (hh : h ≤ 5) (hu : u < 2 ^ h) (t : ByteArray) (ht : t.size ≤ 1000000) (w : World) (hS : SgAt w b seed h u) :
    Calls Try.prog 24 #[.pointer (some ⟨b, 0, none⟩), .string t] w fun e w' => e = .returned (.tuple #[.string (gsigS seed h u t), .int .i64 0]) ∧ SgAt w' b seed h (u + 1) ∧ But b w w' := by
  have h32 := pow_le5 h hh
  obtain ⟨n, hn⟩ : ∃ n, u + n = 2 ^ h := ⟨2 ^ h - u, by omega⟩
  have HL : Hid (Calls Try.prog 54 #[.pointer (some ⟨b, 0, none⟩)] w fun e w' => e = .returned (.int .i64 (n : Int)) ∧ Below w.heap.size w w') := hid (sleft_le b seed h u n hh hn w hS)
  have hn0 : ¬ ((n : Int) = 0) := by omega
  obtain ⟨Y, eY⟩ : ∃ Y : ByteArray, Y = ⟨(signB seed u t).toArray⟩ := ⟨_, rfl⟩
  obtain ⟨P, eP⟩ : ∃ P : ByteArray, P = ⟨(pathB (leafL seed h) u h).toArray⟩ := ⟨_, rfl⟩
  have HG : Hid (∀ v : World, Calls Try.prog 55 #[.string seed, .int .i64 (u : Int), .string t] v fun e w' => e = .returned (.tuple #[.string Y, .int .i64 0]) ∧ Below v.heap.size v w') := hid (fun v => by
    have := osign_le seed hs (u : Int) t ht v
    rw [(sign_yes seed u (by omega) t).1, (sign_yes seed u (by omega) t).2] at this
    rw [eY]
    exact this)
  have HP : Hid (∀ v : World, Calls Try.prog 56 #[.string seed, .int .i64 (h : Int), .int .i64 (u : Int)] v fun e w' => e = .returned (.string P) ∧ Below v.heap.size v w') := hid (fun v => by rw [eP]; exact gpath_le seed hs h u hh hu v)
  have HE : Hid ((⟨#[UInt8.ofNat u]⟩ : ByteArray) ++ Y ++ P = gsigS seed h u t) := hid (by rw [eY, eP]; exact gsig_parts seed h u t)
  have HU : Hid (u < 256) := hid (by omega)
  have HK1 : Hid (¬ 9223372036854775807 < 1 + Y.size) := hid (by rw [eY, mk_size, signB_len]; decide)
  have HK2 : Hid (¬ 9223372036854775807 < 1 + Y.size + P.size) := hid (by rw [eY, mk_size, signB_len, eP, mk_size, path_len _ (leafL_size seed h) u h (leafL_len seed h) hu h (Nat.le_refl _)]; omega)
  have hu0 : (0 : Int) ≤ (u : Int) := Int.natCast_nonneg _
  have hu1 : (u : Int) < 32 := by omega
  have hY2 : (Y.size : Int) = 560 := by rw [eY, mk_size, signB_len]; rfl
  have hP2 : (P.size : Int) ≤ 160 := by rw [eP, mk_size, path_len _ (leafL_size seed h) u h (leafL_len seed h) hu h (Nat.le_refl _)]; omega
  have HS := hid hS
  clear hS hu hh h32 hn eY eP hs ht
  go_enter Try.func24, Try.ntmps24
  go_wp2_with (first
    | (go_at_call 54; refine HL.out.mono ?_; rintro e w1 ⟨rfl, hb1⟩; have H1 := hid (And.intro (HS.out.keep hb1) hb1); clear hb1; have c0 := H1.out.1.c0; have c2 := H1.out.1.c2; have f2 := H1.out.1.fr 2)
    | (go_at_call 55; refine (HG.out _).mono ?_; rintro e w2 ⟨rfl, hb2⟩; have H2 := hid (And.intro (H1.out.1.next.keep hb2) (((But.of H1.out.2).trans ((But.refl b w1).setCell 2 (.int .i64 ((u : Int) + 1)))).trans (But.of hb2))); clear hb2))
  have HD0 : Hid (∀ v : World, Below w2.heap.size w2 v → v.cell? ⟨b, 0, none⟩ = some (.string seed)) := hid (fun v hv => (H2.out.1.keep hv).c0)
  have HD1 : Hid (∀ v : World, Below w2.heap.size w2 v → v.cell? ⟨b, 1, none⟩ = some (.int .i64 (h : Int))) := hid (fun v hv => (H2.out.1.keep hv).c1)
  have HSW := hid (show Below w2.heap.size w2 w2.drew from (Below.refl _ _).drew)
  clear c0 c2 f2
  have e8 : IntKind.u8.wrap (u : Int) = (u : Int) := wrap8 _ hu0 (by omega)
  refine wp_region_held (S := fun v => Below w2.heap.size w2 v) (by kernel_rfl) ?_
  try (change wpAnyH _ _ _ _ _ _ _ _ (World.drew _))
  refine wpAnyH_take (i := 0) (v := ?v1) rfl (by kernel_rfl) (by kernel_rfl) (by kernel_rfl) (fun _ _ _ h => h) (Or.inl ⟨by rfl, ?hy1⟩) HSW.out ?rest1
  case hy1 => (intro ww _; go_simp; try with_reducible rfl)
  go_simp
  refine wpAnyH_take (i := 1) (v := ?v2) rfl (by kernel_rfl) (by kernel_rfl) (by kernel_rfl) (fun _ _ _ h => h) (Or.inl ⟨by rfl, ?hy2⟩) HSW.out ?rest2
  case hy2 => (intro ww _; go_simp; try with_reducible rfl)
  go_simp
  refine wpAnyH_take (i := 4) (v := ?v3) rfl (by kernel_rfl) (by kernel_rfl) (by kernel_rfl) (fun _ _ _ h => h) (Or.inl ⟨by rfl, ?hy3⟩) HSW.out ?rest3
  case hy3 => (intro ww _; go_simp; try with_reducible rfl)
  go_simp
  refine wpAnyH_take (i := 6) (v := ?v4) rfl (by kernel_rfl) (by kernel_rfl) (by kernel_rfl) (fun _ _ _ h => h) (Or.inl ⟨by rfl, ?hy4⟩) HSW.out ?rest4
  case hy4 => (intro ww _; go_simp; try with_reducible rfl)
  go_simp
  refine wpAnyH_take (i := 7) (v := ?v5) rfl (by kernel_rfl) (by kernel_rfl) (by kernel_rfl) (fun _ _ _ h => h) (Or.inl ⟨by rfl, ?hy5⟩) HSW.out ?rest5
  case hy5 => (intro ww _; go_simp; try with_reducible rfl)
  go_simp
  refine wpAnyH_take (i := 8) (v := ?v6) rfl (by kernel_rfl) (by kernel_rfl) (by kernel_rfl) (fun _ _ _ h => h) (Or.inl ⟨by rfl, ?hy6⟩) HSW.out ?rest6
  case hy6 => (intro ww _; go_simp; try with_reducible rfl)
  go_simp
  refine wpAnyH_take (i := 9) (v := ?v7) rfl (by kernel_rfl) (by kernel_rfl) (by kernel_rfl) (fun _ _ _ h => h) (Or.inl ⟨by rfl, ?hy7⟩) HSW.out ?rest7
  case hy7 => (intro ww hS; have z0 := HD0.out ww hS; go_simp; try with_reducible rfl)
  go_simp
  refine wpAnyH_take (i := 10) (v := ?v8) rfl (by kernel_rfl) (by kernel_rfl) (by kernel_rfl) (fun _ _ _ h => h) (Or.inl ⟨by rfl, ?hy8⟩) HSW.out ?rest8
  case hy8 => (intro ww _; go_simp; try with_reducible rfl)
  go_simp
  refine wpAnyH_take (i := 11) (v := ?v9) rfl (by kernel_rfl) (by kernel_rfl) (by kernel_rfl) (fun _ _ _ h => h) (Or.inl ⟨by rfl, ?hy9⟩) HSW.out ?rest9
  case hy9 => (intro ww _; go_simp; try with_reducible rfl)
  go_simp
  refine wpAnyH_take (i := 12) (v := ?v10) rfl (by kernel_rfl) (by kernel_rfl) (by kernel_rfl) (fun _ _ _ h => h) (Or.inl ⟨by rfl, ?hy10⟩) HSW.out ?rest10
  case hy10 => (intro ww _; go_simp; try with_reducible rfl)
  go_simp
  refine wpAnyH_take (i := 13) (v := ?v11) rfl (by kernel_rfl) (by kernel_rfl) (by kernel_rfl) (fun _ _ _ h => h) (Or.inl ⟨by rfl, ?hy11⟩) HSW.out ?rest11
  case hy11 => (intro ww hS; have z0 := HD1.out ww hS; go_simp; try with_reducible rfl)
  go_simp
  refine wpAnyH_take (i := 14) (v := ?v12) rfl (by kernel_rfl) (by kernel_rfl) (by kernel_rfl) (fun _ _ _ h => h) (Or.inl ⟨by rfl, ?hy12⟩) HSW.out ?rest12
  case hy12 => (intro ww _; go_simp; try with_reducible rfl)
  go_simp
  refine wpAnyH_all (rs := [2, 15]) (by kernel_rfl) (by simp) ?_
  intro i hi
  rcases List.mem_cons.1 hi with rfl | hi
  · clear hi
    refine wpOp_k rfl rfl (fun K hK => ?_)
    go_simp
    refine hK _ _ ⟨(show Below w2.heap.size w2 (w2.alloc (.cells #[.int .u8 (u : Int)] 5)).drew from ((Below.refl _ _).alloc (Nat.le_refl _) _).drew), ?_⟩
    clear hK K
    go_simp
    have HA := hid (show Below w2.heap.size w2 (w2.alloc (.cells #[.int .u8 (u : Int)] 5)).drew from ((Below.refl _ _).alloc (Nat.le_refl _) _).drew)
    refine wpAnyH_all (rs := [3, 15]) (by kernel_rfl) (by simp) ?_
    intro i hi
    rcases List.mem_cons.1 hi with rfl | hi
    · clear hi
      refine wpOp_k rfl rfl (fun K hK => ?_)
      go_simp
      rw [one_text u HU.out _ _ (show (w2.alloc (.cells #[.int .u8 (u : Int)] 5)).drew.cell? _ = _ from (cell_at (L := [.int .u8 (u : Int)]) (t := 5) (fr := (0, 0)) (heap_alloc_last w2 _) 0 _ rfl))]
      go_simp
      refine hK _ _ ⟨(HA.out), ?_⟩
      clear hK K
      go_simp
      refine wpAnyH_take (i := 5) (v := ?v13) rfl (by kernel_rfl) (by kernel_rfl) (by kernel_rfl) (fun _ _ _ h => h) (Or.inl ⟨by rfl, ?hy13⟩) HA.out ?rest13
      case hy13 => (intro ww _; go_simp; rw [if_neg HK1.out])
      go_simp
      refine wpAnyH_all (rs := [15]) (by kernel_rfl) (by simp) ?_
      intro i hi
      obtain rfl := List.mem_singleton.1 hi
      clear hi
      refine wpOp_k rfl rfl (fun K hK => ?_)
      go_simp
      refine Calls.mono (HP.out _) ?_
      rintro e w5 ⟨rfl, hb5⟩
      have H5 := hid (show Below w2.heap.size w2 w5 from (HA.out).trans (hb5.mono (HA.out).size))
      refine hK _ _ ⟨H5.out, ?_⟩
      clear hK K
      go_simp
      refine wpAnyH_take (i := 16) (v := ?v14) rfl (by kernel_rfl) (by kernel_rfl) (by kernel_rfl) (fun _ _ _ h => h) (Or.inl ⟨by rfl, ?hy14⟩) H5.out ?rest14
      case hy14 => (intro ww _; go_simp; rw [if_neg HK2.out])
      go_simp
      refine wpAnyH_take (i := 17) (v := ?v15) rfl (by kernel_rfl) (by kernel_rfl) (by kernel_rfl) (fun _ _ _ h => h) (Or.inl ⟨by rfl, ?hy15⟩) H5.out ?rest15
      case hy15 => (intro ww _; go_simp; try with_reducible rfl)
      go_simp
      refine wpAnyH_take (i := 18) (v := ?v16) rfl (by kernel_rfl) (by kernel_rfl) (by kernel_rfl) (fun _ _ _ h => h) (Or.inl ⟨by rfl, ?hy16⟩) H5.out ?rest16
      case hy16 => (intro ww _; go_simp; try with_reducible rfl)
      go_simp
      refine wpAnyH_done (by kernel_rfl) ?_ _
      go_simp
      go_wp2
      go_ret2
      exact ⟨by rw [HE.out]; rfl, H2.out.1.keep (H5.out), H2.out.2.trans (But.of (H5.out))⟩
    · obtain rfl := List.mem_singleton.1 hi
      clear hi
      refine wpOp_k rfl rfl (fun K hK => ?_)
      go_simp
      refine Calls.mono (HP.out _) ?_
      rintro e w5 ⟨rfl, hb5⟩
      have H5 := hid (show Below w2.heap.size w2 w5 from (HA.out).trans (hb5.mono (HA.out).size))
      refine hK _ _ ⟨H5.out, ?_⟩
      clear hK K
      go_simp
      refine wpAnyH_all (rs := [3]) (by kernel_rfl) (by simp) ?_
      intro i hi
      obtain rfl := List.mem_singleton.1 hi
      clear hi
      refine wpOp_k rfl rfl (fun K hK => ?_)
      go_simp
      rw [one_text u HU.out _ _ ((hb5.cell (p := ⟨w2.heap.size, 0, none⟩) (by simp)).trans (cell_at (L := [.int .u8 (u : Int)]) (t := 5) (fr := (0, 0)) (heap_alloc_last w2 _) 0 _ rfl))]
      go_simp
      refine hK _ _ ⟨(H5.out), ?_⟩
      clear hK K
      go_simp
      refine wpAnyH_take (i := 5) (v := ?v17) rfl (by kernel_rfl) (by kernel_rfl) (by kernel_rfl) (fun _ _ _ h => h) (Or.inl ⟨by rfl, ?hy17⟩) H5.out ?rest17
      case hy17 => (intro ww _; go_simp; rw [if_neg HK1.out])
      go_simp
      refine wpAnyH_take (i := 16) (v := ?v18) rfl (by kernel_rfl) (by kernel_rfl) (by kernel_rfl) (fun _ _ _ h => h) (Or.inl ⟨by rfl, ?hy18⟩) H5.out ?rest18
      case hy18 => (intro ww _; go_simp; rw [if_neg HK2.out])
      go_simp
      refine wpAnyH_take (i := 17) (v := ?v19) rfl (by kernel_rfl) (by kernel_rfl) (by kernel_rfl) (fun _ _ _ h => h) (Or.inl ⟨by rfl, ?hy19⟩) H5.out ?rest19
      case hy19 => (intro ww _; go_simp; try with_reducible rfl)
      go_simp
      refine wpAnyH_take (i := 18) (v := ?v20) rfl (by kernel_rfl) (by kernel_rfl) (by kernel_rfl) (fun _ _ _ h => h) (Or.inl ⟨by rfl, ?hy20⟩) H5.out ?rest20
      case hy20 => (intro ww _; go_simp; try with_reducible rfl)
      go_simp
      refine wpAnyH_done (by kernel_rfl) ?_ _
      go_simp
      go_wp2
      go_ret2
      exact ⟨by rw [HE.out]; rfl, H2.out.1.keep (H5.out), H2.out.2.trans (But.of (H5.out))⟩
  · obtain rfl := List.mem_singleton.1 hi
    clear hi
    refine wpOp_k rfl rfl (fun K hK => ?_)
    go_simp
    refine Calls.mono (HP.out _) ?_
    rintro e w5 ⟨rfl, hb5⟩
    have H5 := hid (show Below w2.heap.size w2 w5 from (HSW.out).trans (hb5.mono (HSW.out).size))
    refine hK _ _ ⟨H5.out, ?_⟩
    clear hK K
    go_simp
    refine wpAnyH_all (rs := [2]) (by kernel_rfl) (by simp) ?_
    intro i hi
    obtain rfl := List.mem_singleton.1 hi
    clear hi
    refine wpOp_k rfl rfl (fun K hK => ?_)
    go_simp
    refine hK _ _ ⟨(show Below w2.heap.size w2 (w5.alloc (.cells #[.int .u8 (u : Int)] 5)) from H5.out.alloc H5.out.size _), ?_⟩
    clear hK K
    go_simp
    have HA := hid (show Below w2.heap.size w2 (w5.alloc (.cells #[.int .u8 (u : Int)] 5)) from H5.out.alloc H5.out.size _)
    refine wpAnyH_all (rs := [3]) (by kernel_rfl) (by simp) ?_
    intro i hi
    obtain rfl := List.mem_singleton.1 hi
    clear hi
    refine wpOp_k rfl rfl (fun K hK => ?_)
    go_simp
    rw [one_text u HU.out _ _ ((cell_at (L := [.int .u8 (u : Int)]) (t := 5) (fr := (0, 0)) (heap_alloc_last w5 _) 0 _ rfl))]
    go_simp
    refine hK _ _ ⟨(HA.out), ?_⟩
    clear hK K
    go_simp
    refine wpAnyH_take (i := 5) (v := ?v21) rfl (by kernel_rfl) (by kernel_rfl) (by kernel_rfl) (fun _ _ _ h => h) (Or.inl ⟨by rfl, ?hy21⟩) HA.out ?rest21
    case hy21 => (intro ww _; go_simp; rw [if_neg HK1.out])
    go_simp
    refine wpAnyH_take (i := 16) (v := ?v22) rfl (by kernel_rfl) (by kernel_rfl) (by kernel_rfl) (fun _ _ _ h => h) (Or.inl ⟨by rfl, ?hy22⟩) HA.out ?rest22
    case hy22 => (intro ww _; go_simp; rw [if_neg HK2.out])
    go_simp
    refine wpAnyH_take (i := 17) (v := ?v23) rfl (by kernel_rfl) (by kernel_rfl) (by kernel_rfl) (fun _ _ _ h => h) (Or.inl ⟨by rfl, ?hy23⟩) HA.out ?rest23
    case hy23 => (intro ww _; go_simp; try with_reducible rfl)
    go_simp
    refine wpAnyH_take (i := 18) (v := ?v24) rfl (by kernel_rfl) (by kernel_rfl) (by kernel_rfl) (fun _ _ _ h => h) (Or.inl ⟨by rfl, ?hy24⟩) HA.out ?rest24
    case hy24 => (intro ww _; go_simp; try with_reducible rfl)
    go_simp
    refine wpAnyH_done (by kernel_rfl) ?_ _
    go_simp
    go_wp2
    go_ret2
    exact ⟨by rw [HE.out]; rfl, H2.out.1.keep (HA.out), H2.out.2.trans (But.of (HA.out))⟩
end Go.Proofs.Ytchlmcpnjpllnaa
