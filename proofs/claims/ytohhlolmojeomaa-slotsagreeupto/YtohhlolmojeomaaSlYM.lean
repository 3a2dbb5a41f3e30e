/- The law's own: has, first. -/
import Derived.Test.YtohhlolmojeomaaSlXM
import Derived.Test.YtohhlolmojeomaaOpZM
import Derived.Test.YtohhlolmojeomaaSlWM
namespace Go.Proofs.Ytohhlolmojeomaa
open Go.RowKit

set_option maxRecDepth 100000 in
set_option maxHeartbeats 6400000 in
theorem uhas14 (a : Option Addr) (n cap : Nat) (l : List Int) (hn : l.length = n) (hm : n ≤ maxLen) (id : Int) (w : World) (hI : IntsIn w a l) : Calls Try.prog 14 #[.slice a n cap, .int .i64 id] w fun e w' => e = .returned (.bool (hasM l id)) ∧ Below w.heap.size w w' := by
  have HI := hid hI
  have hnI : (n : Int) ≤ 9223372036854775807 := by unfold maxLen at hm; omega
  clear hI hm
  go_enter Try.func14, Try.ntmps14
  go_wp2_with fail
  go_loopw [5] (fun i wr => ∃ j : Nat, j ≤ n ∧ i = .int .i64 (j : Int) ∧ (∀ t, t < j → l.getD t 0 ≠ id) ∧ Below w.heap.size w wr) (fun i _ => ((n : Int) - intOf i).toNat)
  case atStart => exact ⟨0, Nat.zero_le _, rfl, fun t ht => absurd ht (Nat.not_lt_zero t), Below.refl _ _⟩
  case round =>
    obtain ⟨j, hj, rfl, hne, hw⟩ := hrel
    have HBw := hid hw
    have HNe := hid hne
    clear hw
    have hj0 : (0 : Int) ≤ (j : Int) := Int.natCast_nonneg _
    by_cases hjn : j = n
    · have hj1 : ¬ (j : Int) < (n : Int) := by omega
      have HF : Hid (hasM l id = false) := hid (decide_eq_false (fun hm2 => by
        obtain ⟨t, ht⟩ := List.getElem?_of_mem hm2
        have hl := (List.getElem?_eq_some_iff.1 ht).1
        exact hne t (by omega) (by rw [List.getD_eq_getElem?_getD, ht]; rfl)))
      clear hne hj hjn
      go_wp2
      go_ret
      exact ⟨by rw [HF.out]; rfl, HBw.out⟩
    · have hj1 : (j : Int) < (n : Int) := by omega
      have hw5 : IntKind.i64.wrap ((j : Int) + 1) = (j : Int) + 1 := wrap_l (by omega) (by omega)
      have hz := getD_of (l := l) (i := j) (d := 0) (by omega)
      obtain ⟨ga, off, rfl, hga, hc0⟩ := HI.out.at j _ hz
      have hc := (HBw.out.cell (p := ⟨ga, off + j, none⟩) hga).trans hc0
      clear hc0
      have HJ := hid (And.intro hj hjn)
      by_cases he : l.getD j 0 = id
      · have hbe : (l.getD j 0 == id) = true := by simpa using he
        have HF : Hid (hasM l id = true) := hid (decide_eq_true (by rw [← he]; exact List.mem_of_getElem? hz))
        generalize l.getD j 0 = Z at hc hbe
        clear hne hj hjn hz he hga
        go_wp2
        go_ret
        exact ⟨by rw [HF.out]; rfl, HBw.out⟩
      · have hbe : (l.getD j 0 == id) = false := by simpa using he
        have HNx : Hid (∀ t, t < j + 1 → l.getD t 0 ≠ id) := hid (fun t ht => by
          by_cases e : t = j
          · rw [e]; exact he
          · exact hne t (by omega))
        generalize l.getD j 0 = Z at hc hbe
        clear hne hj hjn hz he hga
        go_wp2
        go_roundw
        case rel => exact ⟨j + 1, by have := HJ.out; omega, by go_num, HNx.out, HBw.out⟩
        case measure => simp [intOf]; omega
/-- What 'first' answers. -/
def firstV (said : List Sp) (o : Sp) : Value := .tuple #[.agg (spC ((firstS said o).getD spZ)).toArray, .bool (firstS said o).isSome]
set_option maxRecDepth 100000 in
set_option maxHeartbeats 6400000 in
theorem ufirst14 (ad : Option Addr) (n cap : Nat) (said : List Sp) (hn : said.length = n) (hm : n ≤ maxLen) (o : Sp) (w : World) (hI : SpsIn w ad said) : Calls Try.prog 17 #[.slice ad n cap, .agg #[.int .i64 o.k, .int .i64 o.fr, .int .i64 o.sl, .int .i64 o.vw, .int .i64 o.a.c, .int .i64 o.a.st, .int .i64 o.a.k, .string o.a.key, .int .u64 (o.a.b : Int), .int .i64 o.a.id, .bool o.wr]] w fun e w' => e = .returned (firstV said o) ∧ Below w.heap.size w w' := by
  have hba : Below w.heap.size w ((w.alloc (.cells #[.int .i64 o.k, .int .i64 o.fr, .int .i64 o.sl, .int .i64 o.vw, .int .i64 o.a.c, .int .i64 o.a.st, .int .i64 o.a.k, .string o.a.key, .int .u64 (o.a.b : Int), .int .i64 o.a.id, .bool o.wr] 36)).alloc (.cells #[.int .i64 0, .int .i64 0, .int .i64 0, .int .i64 0, .int .i64 0, .int .i64 0, .int .i64 0, .string ⟨#[]⟩, .int .u64 0, .int .i64 0, .bool false] 36)) := ((Below.refl _ _).alloc (Nat.le_refl _) _).alloc (by simp) _
  have H0 : Hid (BxAt ((w.alloc (.cells #[.int .i64 o.k, .int .i64 o.fr, .int .i64 o.sl, .int .i64 o.vw, .int .i64 o.a.c, .int .i64 o.a.st, .int .i64 o.a.k, .string o.a.key, .int .u64 (o.a.b : Int), .int .i64 o.a.id, .bool o.wr] 36)).alloc (.cells #[.int .i64 0, .int .i64 0, .int .i64 0, .int .i64 0, .int .i64 0, .int .i64 0, .int .i64 0, .string ⟨#[]⟩, .int .u64 0, .int .i64 0, .bool false] 36)) w.heap.size [.int .i64 o.k, .int .i64 o.fr, .int .i64 o.sl, .int .i64 o.vw, .int .i64 o.a.c, .int .i64 o.a.st, .int .i64 o.a.k, .string o.a.key, .int .u64 (o.a.b : Int), .int .i64 o.a.id, .bool o.wr] 36 ∧ BxAt ((w.alloc (.cells #[.int .i64 o.k, .int .i64 o.fr, .int .i64 o.sl, .int .i64 o.vw, .int .i64 o.a.c, .int .i64 o.a.st, .int .i64 o.a.k, .string o.a.key, .int .u64 (o.a.b : Int), .int .i64 o.a.id, .bool o.wr] 36)).alloc (.cells #[.int .i64 0, .int .i64 0, .int .i64 0, .int .i64 0, .int .i64 0, .int .i64 0, .int .i64 0, .string ⟨#[]⟩, .int .u64 0, .int .i64 0, .bool false] 36)) (w.heap.size + 1) [.int .i64 0, .int .i64 0, .int .i64 0, .int .i64 0, .int .i64 0, .int .i64 0, .int .i64 0, .string ⟨#[]⟩, .int .u64 0, .int .i64 0, .bool false] 36 ∧ Below w.heap.size w ((w.alloc (.cells #[.int .i64 o.k, .int .i64 o.fr, .int .i64 o.sl, .int .i64 o.vw, .int .i64 o.a.c, .int .i64 o.a.st, .int .i64 o.a.k, .string o.a.key, .int .u64 (o.a.b : Int), .int .i64 o.a.id, .bool o.wr] 36)).alloc (.cells #[.int .i64 0, .int .i64 0, .int .i64 0, .int .i64 0, .int .i64 0, .int .i64 0, .int .i64 0, .string ⟨#[]⟩, .int .u64 0, .int .i64 0, .bool false] 36))) := hid ⟨(Below.heap_alloc _ _ _ (by simp)).trans (heap_alloc_last w _), snd_alloc _ _ _, hba⟩
  have hnI : (n : Int) ≤ 9223372036854775807 := by unfold maxLen at hm; omega
  have HI := hid (And.intro hI hn)
  clear hI hm hba hn
  go_enter Try.func17, Try.ntmps17
  go_wp2_with fail
  go_loopw [6] (fun i wr => ∃ j : Nat, j ≤ n ∧ i = .int .i64 (j : Int) ∧ (firstS said o = (said.drop j).find? (isKey o)) ∧ BxAt wr w.heap.size [.int .i64 o.k, .int .i64 o.fr, .int .i64 o.sl, .int .i64 o.vw, .int .i64 o.a.c, .int .i64 o.a.st, .int .i64 o.a.k, .string o.a.key, .int .u64 (o.a.b : Int), .int .i64 o.a.id, .bool o.wr] 36 ∧ BxAt wr (w.heap.size + 1) [.int .i64 0, .int .i64 0, .int .i64 0, .int .i64 0, .int .i64 0, .int .i64 0, .int .i64 0, .string ⟨#[]⟩, .int .u64 0, .int .i64 0, .bool false] 36 ∧ Below w.heap.size w wr) (fun i _ => ((n : Int) - intOf i).toNat)
  case atStart => exact ⟨0, Nat.zero_le _, rfl, rfl, H0.out⟩
  case round =>
    obtain ⟨j, hj, rfl, hf, hx1, hx2, hx3⟩ := hrel
    have HX : Hid (BxAt wr w.heap.size [.int .i64 o.k, .int .i64 o.fr, .int .i64 o.sl, .int .i64 o.vw, .int .i64 o.a.c, .int .i64 o.a.st, .int .i64 o.a.k, .string o.a.key, .int .u64 (o.a.b : Int), .int .i64 o.a.id, .bool o.wr] 36 ∧ BxAt wr (w.heap.size + 1) [.int .i64 0, .int .i64 0, .int .i64 0, .int .i64 0, .int .i64 0, .int .i64 0, .int .i64 0, .string ⟨#[]⟩, .int .u64 0, .int .i64 0, .bool false] 36 ∧ Below w.heap.size w wr) := hid ⟨hx1, hx2, hx3⟩
    clear hx1 hx2 hx3
    have hj0 : (0 : Int) ≤ (j : Int) := Int.natCast_nonneg _
    by_cases hjn : j = n
    · have hj1 : ¬ (j : Int) < (n : Int) := by omega
      have HF : Hid (firstS said o = none) := hid (by rw [hf, hjn, ← HI.out.2, List.drop_length]; rfl)
      clear hf hj hjn
      go_wp2_with (first
        | (refine wl_store_blk rfl 36 _ _ rfl (w.heap.size + 1) 0 rfl #[.int .i64 0, .int .i64 0, .int .i64 0, .int .i64 0, .int .i64 0, .int .i64 0, .int .i64 0, .string ⟨#[]⟩, .int .u64 0, .int .i64 0, .bool false] rfl [.int .i64 0, .int .i64 0, .int .i64 0, .int .i64 0, .int .i64 0, .int .i64 0, .int .i64 0, .string ⟨#[]⟩, .int .u64 0, .int .i64 0, .bool false] 36 HX.out.2.1 (by simp) (by kernel_rfl) (by simp [Value.oneCell']) ?_; intro w9 Hz; have H9 : Hid (BxAt w9 (w.heap.size + 1) [.int .i64 0, .int .i64 0, .int .i64 0, .int .i64 0, .int .i64 0, .int .i64 0, .int .i64 0, .string ⟨#[]⟩, .int .u64 0, .int .i64 0, .bool false] 36 ∧ Below w.heap.size w w9) := hid ⟨Hz.out.1, Hz.out.2.below HX.out.2.2 (by omega)⟩; clear Hz))
      refine ret_pair (s := 4) (s2 := 5) (ad := ⟨w.heap.size + 1, 0, none⟩) rfl rfl (load_blk2 H9.out.1 _ Try.underlying36 rfl (by kernel_rfl)) rfl rfl ?_
      exact ⟨by rw [firstV, HF.out]; rfl, H9.out.2⟩
    · have hj1 : (j : Int) < (n : Int) := by omega
      have hw5 : IntKind.i64.wrap ((j : Int) + 1) = (j : Int) + 1 := wrap_l (by omega) (by omega)
      have hjl : j < said.length := by have := HI.out.2; omega
      obtain ⟨p, hp⟩ : ∃ p, said[j]? = some p := ⟨_, List.getElem?_eq_getElem hjl⟩
      obtain ⟨gs, off, rfl, hgs, hcell⟩ : ∃ gs off, ad = some ⟨gs, off, none⟩ ∧ gs < w.heap.size ∧ w.rangeAt gs (off + j * 11) (spC p) := by
        rcases HI.out.1 with h0 | ⟨gs, off, h1, h2, h3⟩
        · rw [h0] at hp; simp at hp
        · exact ⟨gs, off, h1, h2, fun q u hq => h3 j p hp q u hq⟩
      have HSc : Hid (∀ u : World, Below w.heap.size w u → u.rangeAt gs (off + j * 11) (spC p)) := hid (fun u hu q x hq => (hu.cell (p := ⟨gs, off + j * 11 + q, none⟩) hgs).trans (hcell q x hq))
      have hdr : said.drop j = p :: said.drop (j + 1) := by rw [List.drop_eq_getElem_cons hjl]; rw [(List.getElem?_eq_some_iff.1 hp).2]
      rw [hdr, List.find?_cons] at hf
      have HJ := hid (And.intro hj hjn)
      by_cases he : p.fr = o.fr
      · have hbe : (p.fr == o.fr) = true := by simpa using he
        by_cases he2 : p.sl = o.sl
        · have hbe2 : (p.sl == o.sl) = true := by simpa using he2
          have HF : Hid (firstS said o = some p) := hid (by rw [hf]; simp [isKey, he, he2])
          clear hf hj hjn hjl hp hgs hcell hdr he he2
          go_wp2_with fail
          obtain ⟨wd, ed⟩ : ∃ u, u = wr.drew := ⟨_, rfl⟩
          have HD : Hid (BxAt wd w.heap.size [.int .i64 o.k, .int .i64 o.fr, .int .i64 o.sl, .int .i64 o.vw, .int .i64 o.a.c, .int .i64 o.a.st, .int .i64 o.a.k, .string o.a.key, .int .u64 (o.a.b : Int), .int .i64 o.a.id, .bool o.wr] 36 ∧ BxAt wd (w.heap.size + 1) [.int .i64 0, .int .i64 0, .int .i64 0, .int .i64 0, .int .i64 0, .int .i64 0, .int .i64 0, .string ⟨#[]⟩, .int .u64 0, .int .i64 0, .bool false] 36 ∧ Below w.heap.size w wd) := hid (by rw [ed]; exact ⟨HX.out.1, HX.out.2.1, HX.out.2.2.drew⟩)
          have HS : Hid (BxAt wd w.heap.size [.int .i64 o.k, .int .i64 o.fr, .int .i64 o.sl, .int .i64 o.vw, .int .i64 o.a.c, .int .i64 o.a.st, .int .i64 o.a.k, .string o.a.key, .int .u64 (o.a.b : Int), .int .i64 o.a.id, .bool o.wr] 36 ∧ wd.rangeAt gs (off + j * 11) (spC p)) := hid ⟨HD.out.1, HSc.out _ HD.out.2.2⟩
          refine wp_region_G (S := fun ww => BxAt ww w.heap.size [.int .i64 o.k, .int .i64 o.fr, .int .i64 o.sl, .int .i64 o.vw, .int .i64 o.a.c, .int .i64 o.a.st, .int .i64 o.a.k, .string o.a.key, .int .u64 (o.a.b : Int), .int .i64 o.a.id, .bool o.wr] 36 ∧ ww.rangeAt gs (off + j * 11) (spC p)) (ex := []) (by kernel_rfl) ?_
          try (change wpAnyG _ _ _ _ _ _ _ _ _ (World.drew _))
          try rw [← ed]
          clear ed
          refine wpAnyG_take (i := 0) (v := ?v1) rfl (by kernel_rfl) (fun _ _ _ h => h) (Or.inl ⟨by rfl, ?hy1⟩) HS.out ?rest1
          case hy1 => (intro ww _; go_simp; try with_reducible rfl)
          go_simp
          refine wpAnyG_take (i := 1) (v := ?v2) rfl (by kernel_rfl) (fun _ _ _ h => h) (Or.inl ⟨by rfl, ?hy2⟩) HS.out ?rest2
          case hy2 => (intro ww _; go_simp; try with_reducible rfl)
          go_simp
          refine wpAnyG_take (i := 2) (v := ?v3) rfl (by kernel_rfl) (fun _ _ _ h => h) (Or.inl ⟨by rfl, ?hy3⟩) HS.out ?rest3
          case hy3 => (intro ww _; go_simp; try with_reducible rfl)
          go_simp
          refine wpAnyG_take (i := 3) (v := ?v4) rfl (by kernel_rfl) (fun _ _ _ h => h) (Or.inl ⟨by rfl, ?hy4⟩) HS.out ?rest4
          case hy4 => (intro ww _; go_simp; try with_reducible rfl)
          go_simp
          refine wpAnyG_take (i := 4) (v := ?v5) rfl (by kernel_rfl) (fun _ _ _ h => h) (Or.inl ⟨by rfl, ?hy5⟩) HS.out ?rest5
          case hy5 => (intro ww hS; have p1 := hS.2 1 _ rfl; go_simp; try with_reducible rfl)
          go_simp
          refine wpAnyG_take (i := 5) (v := ?v6) rfl (by kernel_rfl) (fun _ _ _ h => h) (Or.inl ⟨by rfl, ?hy6⟩) HS.out ?rest6
          case hy6 => (intro ww _; go_simp; try with_reducible rfl)
          go_simp
          refine wpAnyG_take (i := 6) (v := ?v7) rfl (by kernel_rfl) (fun _ _ _ h => h) (Or.inl ⟨by rfl, ?hy7⟩) HS.out ?rest7
          case hy7 => (intro ww hS; have o1 := hS.1.cell 1 _ rfl; go_simp; try with_reducible rfl)
          go_simp
          refine wpAnyG_take (i := 7) (v := ?v8) rfl (by kernel_rfl) (fun _ _ _ h => h) (Or.inl ⟨by rfl, ?hy8⟩) HS.out ?rest8
          case hy8 => (intro ww _; go_simp; try with_reducible rfl)
          go_simp
          refine wpAnyG_take (i := 8) (v := ?v9) rfl (by kernel_rfl) (fun _ _ _ h => h) (Or.inl ⟨by rfl, ?hy9⟩) HS.out ?rest9
          case hy9 => (intro ww _; go_simp; try with_reducible rfl)
          go_simp
          refine wpAnyG_take (i := 9) (v := ?v10) rfl (by kernel_rfl) (fun _ _ _ h => h) (Or.inl ⟨by rfl, ?hy10⟩) HS.out ?rest10
          case hy10 => (intro ww _; go_simp; try with_reducible rfl)
          go_simp
          refine wpAnyG_take (i := 10) (v := ?v11) rfl (by kernel_rfl) (fun _ _ _ h => h) (Or.inl ⟨by rfl, ?hy11⟩) HS.out ?rest11
          case hy11 => (intro ww _; go_simp; try with_reducible rfl)
          go_simp
          refine wpAnyG_take (i := 11) (v := ?v12) rfl (by kernel_rfl) (fun _ _ _ h => h) (Or.inl ⟨by rfl, ?hy12⟩) HS.out ?rest12
          case hy12 => (intro ww _; go_simp; try with_reducible rfl)
          go_simp
          refine wpAnyG_take (i := 12) (v := ?v13) rfl (by kernel_rfl) (fun _ _ _ h => h) (Or.inl ⟨by rfl, ?hy13⟩) HS.out ?rest13
          case hy13 => (intro ww _; go_simp; try with_reducible rfl)
          go_simp
          refine wpAnyG_take (i := 13) (v := ?v14) rfl (by kernel_rfl) (fun _ _ _ h => h) (Or.inl ⟨by rfl, ?hy14⟩) HS.out ?rest14
          case hy14 => (intro ww hS; have p2 := hS.2 2 _ rfl; go_simp; try with_reducible rfl)
          go_simp
          refine wpAnyG_take (i := 14) (v := ?v15) rfl (by kernel_rfl) (fun _ _ _ h => h) (Or.inl ⟨by rfl, ?hy15⟩) HS.out ?rest15
          case hy15 => (intro ww _; go_simp; try with_reducible rfl)
          go_simp
          refine wpAnyG_take (i := 15) (v := ?v16) rfl (by kernel_rfl) (fun _ _ _ h => h) (Or.inl ⟨by rfl, ?hy16⟩) HS.out ?rest16
          case hy16 => (intro ww hS; have o2 := hS.1.cell 2 _ rfl; go_simp; try with_reducible rfl)
          go_simp
          refine wpAnyG_take (i := 16) (v := ?v17) rfl (by kernel_rfl) (fun _ _ _ h => h) (Or.inl ⟨by rfl, ?hy17⟩) HS.out ?rest17
          case hy17 => (intro ww _; go_simp; try with_reducible rfl)
          go_simp
          refine wpAnyG_take (i := 17) (v := ?v18) rfl (by kernel_rfl) (fun _ _ _ h => h) (Or.inl ⟨by rfl, ?hy18⟩) HS.out ?rest18
          case hy18 => (intro ww _; go_simp; try with_reducible rfl)
          go_simp
          refine wpAnyG_done (by kernel_rfl) ?_ _
          go_simp
          go_wp2_with (first
            | (refine wl_load_at rfl 36 _ rfl gs (off + j * 11) (by first | rfl | (simp [Act.eval]; done)) (spC p) (HSc.out _ HD.out.2.2) _ Try.underlying36 rfl (by kernel_rfl) ?_)
            | (refine wl_store_blk rfl 36 _ _ rfl (w.heap.size + 1) 0 rfl (spC p).toArray rfl [.int .i64 0, .int .i64 0, .int .i64 0, .int .i64 0, .int .i64 0, .int .i64 0, .int .i64 0, .string ⟨#[]⟩, .int .u64 0, .int .i64 0, .bool false] 36 HD.out.2.1 (by simp [spC]) (by kernel_rfl) (by simp [spC, Value.oneCell']) ?_; intro w9 Hz; have H9 : Hid (BxAt w9 (w.heap.size + 1) (spC p) 36 ∧ Below w.heap.size w w9) := hid ⟨Hz.out.1, Hz.out.2.below HD.out.2.2 (by omega)⟩; clear Hz))
          refine ret_pair (s := 4) (s2 := 5) (ad := ⟨w.heap.size + 1, 0, none⟩) rfl rfl (load_blk2 H9.out.1 _ Try.underlying36 rfl (by kernel_rfl)) rfl rfl ?_
          exact ⟨by rw [firstV, HF.out]; rfl, H9.out.2⟩
        · have hbe2 : (p.sl == o.sl) = false := by simpa using he2
          have HNx : Hid (firstS said o = (said.drop (j + 1)).find? (isKey o)) := hid (by rw [hf]; simp [isKey, he2])
          clear hf hj hjn hjl hp hgs hcell hdr he he2
          go_wp2_with fail
          obtain ⟨wd, ed⟩ : ∃ u, u = wr.drew := ⟨_, rfl⟩
          have HD : Hid (BxAt wd w.heap.size [.int .i64 o.k, .int .i64 o.fr, .int .i64 o.sl, .int .i64 o.vw, .int .i64 o.a.c, .int .i64 o.a.st, .int .i64 o.a.k, .string o.a.key, .int .u64 (o.a.b : Int), .int .i64 o.a.id, .bool o.wr] 36 ∧ BxAt wd (w.heap.size + 1) [.int .i64 0, .int .i64 0, .int .i64 0, .int .i64 0, .int .i64 0, .int .i64 0, .int .i64 0, .string ⟨#[]⟩, .int .u64 0, .int .i64 0, .bool false] 36 ∧ Below w.heap.size w wd) := hid (by rw [ed]; exact ⟨HX.out.1, HX.out.2.1, HX.out.2.2.drew⟩)
          have HS : Hid (BxAt wd w.heap.size [.int .i64 o.k, .int .i64 o.fr, .int .i64 o.sl, .int .i64 o.vw, .int .i64 o.a.c, .int .i64 o.a.st, .int .i64 o.a.k, .string o.a.key, .int .u64 (o.a.b : Int), .int .i64 o.a.id, .bool o.wr] 36 ∧ wd.rangeAt gs (off + j * 11) (spC p)) := hid ⟨HD.out.1, HSc.out _ HD.out.2.2⟩
          refine wp_region_G (S := fun ww => BxAt ww w.heap.size [.int .i64 o.k, .int .i64 o.fr, .int .i64 o.sl, .int .i64 o.vw, .int .i64 o.a.c, .int .i64 o.a.st, .int .i64 o.a.k, .string o.a.key, .int .u64 (o.a.b : Int), .int .i64 o.a.id, .bool o.wr] 36 ∧ ww.rangeAt gs (off + j * 11) (spC p)) (ex := []) (by kernel_rfl) ?_
          try (change wpAnyG _ _ _ _ _ _ _ _ _ (World.drew _))
          try rw [← ed]
          clear ed
          refine wpAnyG_take (i := 0) (v := ?v301) rfl (by kernel_rfl) (fun _ _ _ h => h) (Or.inl ⟨by rfl, ?hy301⟩) HS.out ?rest301
          case hy301 => (intro ww _; go_simp; try with_reducible rfl)
          go_simp
          refine wpAnyG_take (i := 1) (v := ?v302) rfl (by kernel_rfl) (fun _ _ _ h => h) (Or.inl ⟨by rfl, ?hy302⟩) HS.out ?rest302
          case hy302 => (intro ww _; go_simp; try with_reducible rfl)
          go_simp
          refine wpAnyG_take (i := 2) (v := ?v303) rfl (by kernel_rfl) (fun _ _ _ h => h) (Or.inl ⟨by rfl, ?hy303⟩) HS.out ?rest303
          case hy303 => (intro ww _; go_simp; try with_reducible rfl)
          go_simp
          refine wpAnyG_take (i := 3) (v := ?v304) rfl (by kernel_rfl) (fun _ _ _ h => h) (Or.inl ⟨by rfl, ?hy304⟩) HS.out ?rest304
          case hy304 => (intro ww _; go_simp; try with_reducible rfl)
          go_simp
          refine wpAnyG_take (i := 4) (v := ?v305) rfl (by kernel_rfl) (fun _ _ _ h => h) (Or.inl ⟨by rfl, ?hy305⟩) HS.out ?rest305
          case hy305 => (intro ww hS; have p1 := hS.2 1 _ rfl; go_simp; try with_reducible rfl)
          go_simp
          refine wpAnyG_take (i := 5) (v := ?v306) rfl (by kernel_rfl) (fun _ _ _ h => h) (Or.inl ⟨by rfl, ?hy306⟩) HS.out ?rest306
          case hy306 => (intro ww _; go_simp; try with_reducible rfl)
          go_simp
          refine wpAnyG_take (i := 6) (v := ?v307) rfl (by kernel_rfl) (fun _ _ _ h => h) (Or.inl ⟨by rfl, ?hy307⟩) HS.out ?rest307
          case hy307 => (intro ww hS; have o1 := hS.1.cell 1 _ rfl; go_simp; try with_reducible rfl)
          go_simp
          refine wpAnyG_take (i := 7) (v := ?v308) rfl (by kernel_rfl) (fun _ _ _ h => h) (Or.inl ⟨by rfl, ?hy308⟩) HS.out ?rest308
          case hy308 => (intro ww _; go_simp; try with_reducible rfl)
          go_simp
          refine wpAnyG_take (i := 8) (v := ?v309) rfl (by kernel_rfl) (fun _ _ _ h => h) (Or.inl ⟨by rfl, ?hy309⟩) HS.out ?rest309
          case hy309 => (intro ww _; go_simp; try with_reducible rfl)
          go_simp
          refine wpAnyG_take (i := 9) (v := ?v310) rfl (by kernel_rfl) (fun _ _ _ h => h) (Or.inl ⟨by rfl, ?hy310⟩) HS.out ?rest310
          case hy310 => (intro ww _; go_simp; try with_reducible rfl)
          go_simp
          refine wpAnyG_take (i := 10) (v := ?v311) rfl (by kernel_rfl) (fun _ _ _ h => h) (Or.inl ⟨by rfl, ?hy311⟩) HS.out ?rest311
          case hy311 => (intro ww _; go_simp; try with_reducible rfl)
          go_simp
          refine wpAnyG_take (i := 11) (v := ?v312) rfl (by kernel_rfl) (fun _ _ _ h => h) (Or.inl ⟨by rfl, ?hy312⟩) HS.out ?rest312
          case hy312 => (intro ww _; go_simp; try with_reducible rfl)
          go_simp
          refine wpAnyG_take (i := 12) (v := ?v313) rfl (by kernel_rfl) (fun _ _ _ h => h) (Or.inl ⟨by rfl, ?hy313⟩) HS.out ?rest313
          case hy313 => (intro ww _; go_simp; try with_reducible rfl)
          go_simp
          refine wpAnyG_take (i := 13) (v := ?v314) rfl (by kernel_rfl) (fun _ _ _ h => h) (Or.inl ⟨by rfl, ?hy314⟩) HS.out ?rest314
          case hy314 => (intro ww hS; have p2 := hS.2 2 _ rfl; go_simp; try with_reducible rfl)
          go_simp
          refine wpAnyG_take (i := 14) (v := ?v315) rfl (by kernel_rfl) (fun _ _ _ h => h) (Or.inl ⟨by rfl, ?hy315⟩) HS.out ?rest315
          case hy315 => (intro ww _; go_simp; try with_reducible rfl)
          go_simp
          refine wpAnyG_take (i := 15) (v := ?v316) rfl (by kernel_rfl) (fun _ _ _ h => h) (Or.inl ⟨by rfl, ?hy316⟩) HS.out ?rest316
          case hy316 => (intro ww hS; have o2 := hS.1.cell 2 _ rfl; go_simp; try with_reducible rfl)
          go_simp
          refine wpAnyG_take (i := 16) (v := ?v317) rfl (by kernel_rfl) (fun _ _ _ h => h) (Or.inl ⟨by rfl, ?hy317⟩) HS.out ?rest317
          case hy317 => (intro ww _; go_simp; try with_reducible rfl)
          go_simp
          refine wpAnyG_take (i := 17) (v := ?v318) rfl (by kernel_rfl) (fun _ _ _ h => h) (Or.inl ⟨by rfl, ?hy318⟩) HS.out ?rest318
          case hy318 => (intro ww _; go_simp; try with_reducible rfl)
          go_simp
          refine wpAnyG_done (by kernel_rfl) ?_ _
          go_simp
          go_wp2
          go_roundw
          case rel => exact ⟨j + 1, by have := HJ.out; omega, by go_num, HNx.out, HD.out⟩
          case measure => simp [intOf]; omega
      · have hbe : (p.fr == o.fr) = false := by simpa using he
        have HNx : Hid (firstS said o = (said.drop (j + 1)).find? (isKey o)) := hid (by rw [hf]; simp [isKey, he])
        clear hf hj hjn hjl hp hgs hcell hdr he
        go_wp2_with fail
        obtain ⟨wd, ed⟩ : ∃ u, u = wr.drew := ⟨_, rfl⟩
        have HD : Hid (BxAt wd w.heap.size [.int .i64 o.k, .int .i64 o.fr, .int .i64 o.sl, .int .i64 o.vw, .int .i64 o.a.c, .int .i64 o.a.st, .int .i64 o.a.k, .string o.a.key, .int .u64 (o.a.b : Int), .int .i64 o.a.id, .bool o.wr] 36 ∧ BxAt wd (w.heap.size + 1) [.int .i64 0, .int .i64 0, .int .i64 0, .int .i64 0, .int .i64 0, .int .i64 0, .int .i64 0, .string ⟨#[]⟩, .int .u64 0, .int .i64 0, .bool false] 36 ∧ Below w.heap.size w wd) := hid (by rw [ed]; exact ⟨HX.out.1, HX.out.2.1, HX.out.2.2.drew⟩)
        have HS : Hid (BxAt wd w.heap.size [.int .i64 o.k, .int .i64 o.fr, .int .i64 o.sl, .int .i64 o.vw, .int .i64 o.a.c, .int .i64 o.a.st, .int .i64 o.a.k, .string o.a.key, .int .u64 (o.a.b : Int), .int .i64 o.a.id, .bool o.wr] 36 ∧ wd.rangeAt gs (off + j * 11) (spC p)) := hid ⟨HD.out.1, HSc.out _ HD.out.2.2⟩
        refine wp_region_G (S := fun ww => BxAt ww w.heap.size [.int .i64 o.k, .int .i64 o.fr, .int .i64 o.sl, .int .i64 o.vw, .int .i64 o.a.c, .int .i64 o.a.st, .int .i64 o.a.k, .string o.a.key, .int .u64 (o.a.b : Int), .int .i64 o.a.id, .bool o.wr] 36 ∧ ww.rangeAt gs (off + j * 11) (spC p)) (ex := []) (by kernel_rfl) ?_
        try (change wpAnyG _ _ _ _ _ _ _ _ _ (World.drew _))
        try rw [← ed]
        clear ed
        refine wpAnyG_take (i := 0) (v := ?v601) rfl (by kernel_rfl) (fun _ _ _ h => h) (Or.inl ⟨by rfl, ?hy601⟩) HS.out ?rest601
        case hy601 => (intro ww _; go_simp; try with_reducible rfl)
        go_simp
        refine wpAnyG_take (i := 1) (v := ?v602) rfl (by kernel_rfl) (fun _ _ _ h => h) (Or.inl ⟨by rfl, ?hy602⟩) HS.out ?rest602
        case hy602 => (intro ww _; go_simp; try with_reducible rfl)
        go_simp
        refine wpAnyG_take (i := 2) (v := ?v603) rfl (by kernel_rfl) (fun _ _ _ h => h) (Or.inl ⟨by rfl, ?hy603⟩) HS.out ?rest603
        case hy603 => (intro ww _; go_simp; try with_reducible rfl)
        go_simp
        refine wpAnyG_take (i := 3) (v := ?v604) rfl (by kernel_rfl) (fun _ _ _ h => h) (Or.inl ⟨by rfl, ?hy604⟩) HS.out ?rest604
        case hy604 => (intro ww _; go_simp; try with_reducible rfl)
        go_simp
        refine wpAnyG_take (i := 4) (v := ?v605) rfl (by kernel_rfl) (fun _ _ _ h => h) (Or.inl ⟨by rfl, ?hy605⟩) HS.out ?rest605
        case hy605 => (intro ww hS; have p1 := hS.2 1 _ rfl; go_simp; try with_reducible rfl)
        go_simp
        refine wpAnyG_take (i := 5) (v := ?v606) rfl (by kernel_rfl) (fun _ _ _ h => h) (Or.inl ⟨by rfl, ?hy606⟩) HS.out ?rest606
        case hy606 => (intro ww _; go_simp; try with_reducible rfl)
        go_simp
        refine wpAnyG_take (i := 6) (v := ?v607) rfl (by kernel_rfl) (fun _ _ _ h => h) (Or.inl ⟨by rfl, ?hy607⟩) HS.out ?rest607
        case hy607 => (intro ww hS; have o1 := hS.1.cell 1 _ rfl; go_simp; try with_reducible rfl)
        go_simp
        refine wpAnyG_take (i := 7) (v := ?v608) rfl (by kernel_rfl) (fun _ _ _ h => h) (Or.inl ⟨by rfl, ?hy608⟩) HS.out ?rest608
        case hy608 => (intro ww _; go_simp; try with_reducible rfl)
        go_simp
        refine wpAnyG_take (i := 8) (v := ?v609) rfl (by kernel_rfl) (fun _ _ _ h => h) (Or.inl ⟨by rfl, ?hy609⟩) HS.out ?rest609
        case hy609 => (intro ww _; go_simp; try with_reducible rfl)
        go_simp
        refine wpAnyG_take (i := 9) (v := undef) rfl (by kernel_rfl) (fun _ _ _ h => h) (Or.inr ⟨by rfl, rfl⟩) HS.out ?rest610
        go_simp
        refine wpAnyG_take (i := 10) (v := undef) rfl (by kernel_rfl) (fun _ _ _ h => h) (Or.inr ⟨by rfl, rfl⟩) HS.out ?rest611
        go_simp
        refine wpAnyG_take (i := 11) (v := undef) rfl (by kernel_rfl) (fun _ _ _ h => h) (Or.inr ⟨by rfl, rfl⟩) HS.out ?rest612
        go_simp
        refine wpAnyG_take (i := 12) (v := undef) rfl (by kernel_rfl) (fun _ _ _ h => h) (Or.inr ⟨by rfl, rfl⟩) HS.out ?rest613
        go_simp
        refine wpAnyG_take (i := 13) (v := undef) rfl (by kernel_rfl) (fun _ _ _ h => h) (Or.inr ⟨by rfl, rfl⟩) HS.out ?rest614
        go_simp
        refine wpAnyG_take (i := 14) (v := undef) rfl (by kernel_rfl) (fun _ _ _ h => h) (Or.inr ⟨by rfl, rfl⟩) HS.out ?rest615
        go_simp
        refine wpAnyG_take (i := 15) (v := undef) rfl (by kernel_rfl) (fun _ _ _ h => h) (Or.inr ⟨by rfl, rfl⟩) HS.out ?rest616
        go_simp
        refine wpAnyG_take (i := 16) (v := undef) rfl (by kernel_rfl) (fun _ _ _ h => h) (Or.inr ⟨by rfl, rfl⟩) HS.out ?rest617
        go_simp
        refine wpAnyG_take (i := 17) (v := ?v618) rfl (by kernel_rfl) (fun _ _ _ h => h) (Or.inl ⟨by rfl, ?hy618⟩) HS.out ?rest618
        case hy618 => (intro ww _; go_simp; try with_reducible rfl)
        go_simp
        refine wpAnyG_done (by kernel_rfl) ?_ _
        go_simp
        go_wp2
        go_roundw
        case rel => exact ⟨j + 1, by have := HJ.out; omega, by go_num, HNx.out, HD.out⟩
        case measure => simp [intOf]; omega
end Go.Proofs.Ytohhlolmojeomaa
