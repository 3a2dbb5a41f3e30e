/- The laws' own changes: four, signed, cert. -/
import Derived.Test.YthoofboegchodaaChIM
import Derived.Test.YthoofboegchodaaGtAM
import Derived.Test.YthoofboegchodaaApAM
import Derived.Test.YthoofboegchodaaTeQM
import Derived.Test.YthoofboegchodaaDsIM
import Derived.Test.YthoofboegchodaaKd1
namespace Go.Proofs.Ythoofboegchodaa
open Go.RowKit

set_option maxRecDepth 100000 in
set_option maxHeartbeats 1600000 in
theorem ufour_any (w : World) : Calls Try.prog 28 #[] w fun e w' => ∃ ad cp, e = .returned (.agg #[.int .i64 0, .slice ad 4 cp]) ∧ IntsIn w' ad [0, 1, 2, 3] ∧ Below w.heap.size w w' := by
  go_enter Try.func28, Try.ntmps28
  go_wp2
  have hc := (Below.heap_alloc (w.alloc (.cells #[.int .i64 0, .slice (some ⟨w.heap.size + 1, 0, none⟩) 4 4] 34)) (.cells #[.int .i64 0, .int .i64 1, .int .i64 2, .int .i64 3] 3) w.heap.size (by simp)).trans (heap_alloc_last w _)
  refine ret_oneD (s := 0) (ad := ⟨w.heap.size, 0, none⟩) rfl rfl (load_conf _ _ _ _ (cell_two hc).1 (cell_two hc).2) rfl ?_
  have hi := snd_alloc w (.cells #[.int .i64 0, .slice (some ⟨w.heap.size + 1, 0, none⟩) 4 4] 34) (.cells #[.int .i64 0, .int .i64 1, .int .i64 2, .int .i64 3] 3)
  refine ⟨_, 4, rfl, .inr ⟨w.heap.size + 1, 0, rfl, by simp, fun j z hz => ?_⟩, ((Below.refl _ _).alloc (Nat.le_refl _) _).alloc (by simp) _⟩
  rw [Nat.zero_add]
  refine cell_at (L := [.int .i64 0, .int .i64 1, .int .i64 2, .int .i64 3]) hi j _ ?_
  match j, hz with
  | 0, hz => cases hz; rfl
  | 1, hz => cases hz; rfl
  | 2, hz => cases hz; rfl
  | 3, hz => cases hz; rfl
  | j + 4, hz => simp at hz
theorem load_blk {w : World} {b : Nat} {L : List Value} {T TB : TypeId} (h : BxAt w b L TB) (d : TypeDesc) (hu : Try.prog.underlying T = some d) (hd : d.isRow = true) (hi : (Try.prog.info? T).map (·.size) = some L.length) : (loadVar T ⟨b, 0, none⟩).run Try.prog w = .ok (.agg L.toArray) w :=
  run_loadVar_mid (P := Try.prog) w b 0 T L d (fun j v hv => by rw [Nat.zero_add]; exact cell_at h j v hv) hu hd hi
/-- A change signed by From. -/
def sgnd (ep : Int) (z : Cg) : Cg := (z.1, z.2.1, z.2.2.1, (z.1, chT ep z))
set_option maxRecDepth 100000 in
set_option maxHeartbeats 1600000 in
theorem usigned_any {F : Nat → Prop} (ep : Int) (z : Cg) (a : Option Addr) (n cap : Nat) (hl : z.2.2.1.length ≤ maxLen) (hb : ∀ x, x ∈ z.2.2.1 → ctR x) (w : World) (hR : Reads F w (.slice a n cap) (dCts z.2.2.1)) :
    Calls Try.prog 25 #[.int .i64 ep, .agg #[.int .i64 z.1, .int .i64 z.2.1, .slice a n cap, .int .i64 z.2.2.2.1, .string z.2.2.2.2]] w fun e w' => e = .returned (.agg #[.int .i64 z.1, .int .i64 z.2.1, .slice a n cap, .int .i64 z.1, .string (chT ep z)]) ∧ Below w.heap.size w w' := by
  obtain ⟨wa, ea⟩ : ∃ wa, wa = (w.alloc (.cells #[.int .i64 z.1, .int .i64 z.2.1, .slice a n cap, .int .i64 z.2.2.2.1, .string z.2.2.2.2] 26)).alloc (.cells #[.int .i64 0, .int .i64 0, .slice none 0 0, .int .i64 0, .string ⟨#[]⟩] 26) := ⟨_, rfl⟩
  have hba : Below w.heap.size w wa := by rw [ea]; exact ((Below.refl _ _).alloc (Nat.le_refl _) _).alloc (by simp) _
  have hX1 : BxAt wa w.heap.size [.int .i64 z.1, .int .i64 z.2.1, .slice a n cap, .int .i64 z.2.2.2.1, .string z.2.2.2.2] 26 := by rw [ea]; exact (Below.heap_alloc _ _ _ (by simp)).trans (heap_alloc_last w _)
  have hX2 : BxAt wa (w.heap.size + 1) [.int .i64 0, .int .i64 0, .slice none 0 0, .int .i64 0, .string ⟨#[]⟩] 26 := by rw [ea]; exact snd_alloc _ _ _
  have H0 := hid (And.intro hX1 (And.intro hX2 hba))
  have HEa := hid ea
  have HT : Hid (∀ u : World, Below w.heap.size w u → Calls Try.prog 11 #[.int .i64 ep, .agg #[.int .i64 z.1, .int .i64 z.2.1, .slice a n cap, .int .i64 z.2.2.2.1, .string z.2.2.2.2]] u fun e w' => e = .returned (.tuple #[.string (chT ep z), .int .i64 (chE ep z)]) ∧ Below u.heap.size u w') := hid (fun u hu => wtext16_any ep z a n cap hl hb u (hR.under hu (Nat.le_refl _)))
  generalize chT ep z = tx at HT ⊢
  generalize chE ep z = er at HT
  clear hl hb hR ea hba hX1 hX2
  have y0 := H0.out.1.cell 0 _ rfl; have y1 := H0.out.1.cell 1 _ rfl; have y2 := H0.out.1.cell 2 _ rfl; have y3 := H0.out.1.cell 3 _ rfl; have y4 := H0.out.1.cell 4 _ rfl
  go_enter Try.func25, Try.ntmps25
  go_wp2_with fail
  rw [← HEa.out]
  go_wp2_with (first
    | (have := H2; refine wl_store_blk rfl 26 _ _ rfl (w.heap.size + 1) 0 rfl #[.int .i64 z.1, .int .i64 z.2.1, .slice a n cap, .int .i64 z.1, .string tx] rfl [.int .i64 0, .int .i64 0, .slice none 0 0, .int .i64 0, .string ⟨#[]⟩] 26 H2.out.2.1 (by simp) (by kernel_rfl) (by simp [Value.oneCell']) ?_; intro w3 Hz; go_must (have H3 : Hid (BxAt w3 (w.heap.size + 1) [.int .i64 z.1, .int .i64 z.2.1, .slice a n cap, .int .i64 z.1, .string tx] 26 ∧ Below w.heap.size w w3) := hid ⟨Hz.out.1, Hz.out.2.below H2.out.2.2 (by omega)⟩); clear Hz)
    | (have := H1; refine wl_store_blk rfl 24 _ _ rfl w.heap.size 3 rfl #[.int .i64 z.1, .string tx] rfl [.int .i64 z.1, .int .i64 z.2.1, .slice a n cap, .int .i64 z.2.2.2.1, .string z.2.2.2.2] 26 H1.out.1 (by simp) (by kernel_rfl) (by simp [Value.oneCell']) ?_; intro w2 Hz; go_must (have H2 : Hid (BxAt w2 w.heap.size [.int .i64 z.1, .int .i64 z.2.1, .slice a n cap, .int .i64 z.1, .string tx] 26 ∧ BxAt w2 (w.heap.size + 1) [.int .i64 0, .int .i64 0, .slice none 0 0, .int .i64 0, .string ⟨#[]⟩] 26 ∧ Below w.heap.size w w2) := hid ⟨Hz.out.1, (Hz.out.2.block _ (by omega)).trans H1.out.2.1, Hz.out.2.below H1.out.2.2 (Nat.le_refl _)⟩); clear Hz y0 y1 y2 y3 y4; have y0 := H2.out.1.cell 0 _ rfl; have y1 := H2.out.1.cell 1 _ rfl; have y2 := H2.out.1.cell 2 _ rfl; have y3 := H2.out.1.cell 3 _ rfl; have y4 := H2.out.1.cell 4 _ rfl)
    | (go_at_call 11; go_must (refine (HT.out _ H0.out.2.2).mono ?_); rintro e w1 ⟨rfl, hb⟩; have H1 : Hid (BxAt w1 w.heap.size [.int .i64 z.1, .int .i64 z.2.1, .slice a n cap, .int .i64 z.2.2.2.1, .string z.2.2.2.2] 26 ∧ BxAt w1 (w.heap.size + 1) [.int .i64 0, .int .i64 0, .slice none 0 0, .int .i64 0, .string ⟨#[]⟩] 26 ∧ Below w.heap.size w w1) := hid ⟨H0.out.1.keep hb, H0.out.2.1.keep hb, H0.out.2.2.trans (hb.mono H0.out.2.2.size)⟩; clear hb y0 y1 y2 y3 y4; have y0 := H1.out.1.cell 0 _ rfl; have y1 := H1.out.1.cell 1 _ rfl; have y2 := H1.out.1.cell 2 _ rfl; have y3 := H1.out.1.cell 3 _ rfl; have y4 := H1.out.1.cell 4 _ rfl))
  refine ret_oneD (s := 4) (ad := ⟨w.heap.size + 1, 0, none⟩) rfl rfl (load_blk H3.out.1 _ Try.underlying26 rfl (by kernel_rfl)) rfl ?_
  exact ⟨rfl, H3.out.2⟩
set_option maxRecDepth 100000 in
set_option maxHeartbeats 1600000 in
theorem ucert_any (ep v sl : Int) (r : Rq) (hb : r.b < 18446744073709551616) (a : Option Addr) (n cap : Nat) (l : List Int) (hn : l.length = n) (hm : n ≤ 1000) (w : World) (hI : IntsIn w a l) :
    Calls Try.prog 24 #[.int .i64 ep, .int .i64 v, .int .i64 sl, .agg #[.int .i64 r.c, .int .i64 r.st, .int .i64 r.k, .string r.key, .float .f64 r.b, .int .i64 r.id], .slice a n cap] w fun e w' => ∃ ad cp, e = .returned (.agg #[.int .i64 v, .int .i64 sl, .int .i64 r.c, .int .i64 r.st, .int .i64 r.k, .string r.key, .float .f64 r.b, .int .i64 r.id, .slice ad n cp]) ∧ PairsIn w' ad (l.map fun m => (m, prT ep v sl r)) ∧ (∀ x, ad = some x → w.heap.size ≤ x.block) ∧ Below w.heap.size w w' := by
  obtain ⟨iv, hv0, hvz0, hvz1, hvz2⟩ := info_parts Try.info24
  obtain ⟨wa, ea⟩ : ∃ wa, wa = (w.alloc (.cells #[.int .i64 r.c, .int .i64 r.st, .int .i64 r.k, .string r.key, .float .f64 r.b, .int .i64 r.id] 49)).alloc (.cells #[.int .i64 0, .int .i64 0, .int .i64 0, .int .i64 0, .int .i64 0, .string ⟨#[]⟩, .float .f64 0, .int .i64 0, .slice none 0 0] 52) := ⟨_, rfl⟩
  have hba : Below w.heap.size w wa := by rw [ea]; exact ((Below.refl _ _).alloc (Nat.le_refl _) _).alloc (by simp) _
  have hX1 : BxAt wa w.heap.size [.int .i64 r.c, .int .i64 r.st, .int .i64 r.k, .string r.key, .float .f64 r.b, .int .i64 r.id] 49 := by rw [ea]; exact (Below.heap_alloc _ _ _ (by simp)).trans (heap_alloc_last w _)
  have hX2 : BxAt wa (w.heap.size + 1) [.int .i64 0, .int .i64 0, .int .i64 0, .int .i64 0, .int .i64 0, .string ⟨#[]⟩, .float .f64 0, .int .i64 0, .slice none 0 0] 52 := by rw [ea]; exact snd_alloc _ _ _
  have hsz : wa.heap.size = w.heap.size + 2 := by rw [ea]; simp
  have H0 := hid (And.intro hX1 (And.intro hX2 hba))
  have HEa := hid ea
  have HZ := hid hsz
  have HT : Hid (∀ u : World, Calls Try.prog 44 #[.int .i64 ep, .int .i64 v, .int .i64 sl, .agg #[.int .i64 r.c, .int .i64 r.st, .int .i64 r.k, .string r.key, .float .f64 r.b, .int .i64 r.id]] u fun e w' => e = .returned (.tuple #[.string (prT ep v sl r), .int .i64 (prE ep v sl r)]) ∧ Below u.heap.size u w') := hid (fun u => qprepared_any ep v sl r hb u)
  generalize prT ep v sl r = tx at HT ⊢
  generalize prE ep v sl r = er at HT
  have HI := hid hI
  have HN := hid (And.intro hn hm)
  have hmi : (n : Int) ≤ 1000 := by omega
  clear hb hI hn hm ea hba hX1 hX2 hsz
  have HLast : Hid ((((w.alloc (.cells #[.int .i64 r.c, .int .i64 r.st, .int .i64 r.k, .string r.key, .float .f64 r.b, .int .i64 r.id] 49)).alloc (.cells #[.int .i64 0, .int .i64 0, .int .i64 0, .int .i64 0, .int .i64 0, .string ⟨#[]⟩, .float .f64 0, .int .i64 0, .slice none 0 0] 52)).alloc (.cells #[.int .i64 0, .int .i64 0, .int .i64 0, .int .i64 0, .int .i64 0, .string ⟨#[]⟩, .float .f64 0, .int .i64 0, .slice none 0 0] 52)).heap[w.heap.size + 1 + 1]? = some (.cells #[.int .i64 0, .int .i64 0, .int .i64 0, .int .i64 0, .int .i64 0, .string ⟨#[]⟩, .float .f64 0, .int .i64 0, .slice none 0 0] 52 (0, 0))) := hid (by
    have h := heap_alloc_last ((w.alloc (.cells #[.int .i64 r.c, .int .i64 r.st, .int .i64 r.k, .string r.key, .float .f64 r.b, .int .i64 r.id] 49)).alloc (.cells #[.int .i64 0, .int .i64 0, .int .i64 0, .int .i64 0, .int .i64 0, .string ⟨#[]⟩, .float .f64 0, .int .i64 0, .slice none 0 0] 52)) (.cells #[.int .i64 0, .int .i64 0, .int .i64 0, .int .i64 0, .int .i64 0, .string ⟨#[]⟩, .float .f64 0, .int .i64 0, .slice none 0 0] 52)
    rw [show ((w.alloc (.cells #[.int .i64 r.c, .int .i64 r.st, .int .i64 r.k, .string r.key, .float .f64 r.b, .int .i64 r.id] 49)).alloc (.cells #[.int .i64 0, .int .i64 0, .int .i64 0, .int .i64 0, .int .i64 0, .string ⟨#[]⟩, .float .f64 0, .int .i64 0, .slice none 0 0] 52)).heap.size = w.heap.size + 1 + 1 by simp] at h
    exact h)
  go_enter Try.func24, Try.ntmps24
  go_wp2_with (first
    | (have := H1; go_at_call 44; go_must (refine (HT.out _).mono ?_); rintro e w2 ⟨rfl, hb⟩; have H2 : Hid (BxAt w2 (w.heap.size + 2) [.int .i64 v, .int .i64 sl, .int .i64 r.c, .int .i64 r.st, .int .i64 r.k, .string r.key, .float .f64 r.b, .int .i64 r.id, .slice none 0 0] 52 ∧ BxAt w2 (w.heap.size + 1) [.int .i64 0, .int .i64 0, .int .i64 0, .int .i64 0, .int .i64 0, .string ⟨#[]⟩, .float .f64 0, .int .i64 0, .slice none 0 0] 52 ∧ Below w.heap.size w w2) := hid ⟨H1.out.1.keep hb, H1.out.2.1.keep hb, H1.out.2.2.2.trans (hb.mono H1.out.2.2.2.size)⟩; clear hb x0 x1 x2 x3 x4 x5)
    | (refine wl_store_blk rfl 52 _ _ rfl (w.heap.size + 1 + 1) 0 rfl #[.int .i64 v, .int .i64 sl, .int .i64 r.c, .int .i64 r.st, .int .i64 r.k, .string r.key, .float .f64 r.b, .int .i64 r.id, .slice none 0 0] rfl [.int .i64 0, .int .i64 0, .int .i64 0, .int .i64 0, .int .i64 0, .string ⟨#[]⟩, .float .f64 0, .int .i64 0, .slice none 0 0] 52 HLast.out (by simp) (by kernel_rfl) (by simp [Value.oneCell']) ?_; intro w1 Hz; go_must (have hb1 : Below wa.heap.size wa w1 := (by rw [HEa.out, show ((w.alloc (.cells #[.int .i64 r.c, .int .i64 r.st, .int .i64 r.k, .string r.key, .float .f64 r.b, .int .i64 r.id] 49)).alloc (.cells #[.int .i64 0, .int .i64 0, .int .i64 0, .int .i64 0, .int .i64 0, .string ⟨#[]⟩, .float .f64 0, .int .i64 0, .slice none 0 0] 52)).heap.size = w.heap.size + 1 + 1 by simp]; exact Hz.out.2.below ((Below.refl _ _).alloc (by simp) _) (by simp)); have H1 : Hid (BxAt w1 (w.heap.size + 2) [.int .i64 v, .int .i64 sl, .int .i64 r.c, .int .i64 r.st, .int .i64 r.k, .string r.key, .float .f64 r.b, .int .i64 r.id, .slice none 0 0] 52 ∧ BxAt w1 (w.heap.size + 1) [.int .i64 0, .int .i64 0, .int .i64 0, .int .i64 0, .int .i64 0, .string ⟨#[]⟩, .float .f64 0, .int .i64 0, .slice none 0 0] 52 ∧ BxAt w1 w.heap.size [.int .i64 r.c, .int .i64 r.st, .int .i64 r.k, .string r.key, .float .f64 r.b, .int .i64 r.id] 49 ∧ Below w.heap.size w w1) := hid ⟨Hz.out.1, H0.out.2.1.keep hb1, H0.out.1.keep hb1, H0.out.2.2.trans (hb1.mono H0.out.2.2.size)⟩); clear Hz hb1; have x0 := H1.out.2.2.1.cell 0 _ rfl; have x1 := H1.out.2.2.1.cell 1 _ rfl; have x2 := H1.out.2.2.1.cell 2 _ rfl; have x3 := H1.out.2.2.1.cell 3 _ rfl; have x4 := H1.out.2.2.1.cell 4 _ rfl; have x5 := H1.out.2.2.1.cell 5 _ rfl))
  go_loopw [14] (fun i wr => ∃ j : Nat, j ≤ n ∧ i = .int .i64 (j : Int) ∧ ∃ y, BxAt wr (w.heap.size + 2) [.int .i64 v, .int .i64 sl, .int .i64 r.c, .int .i64 r.st, .int .i64 r.k, .string r.key, .float .f64 r.b, .int .i64 r.id, y] 52 ∧ BxAt wr (w.heap.size + 1) [.int .i64 0, .int .i64 0, .int .i64 0, .int .i64 0, .int .i64 0, .string ⟨#[]⟩, .float .f64 0, .int .i64 0, .slice none 0 0] 52 ∧ wr.ownsRow (w.heap.size + 3) 24 2 y j (pC ((l.take j).map fun m => (m, tx))) ∧ Below w.heap.size w wr)
    (fun i _ => ((n : Int) - intOf i).toNat)
  case atStart => exact ⟨0, Nat.zero_le _, rfl, _, H2.out.1, H2.out.2.1, ⟨rfl, .inl ⟨rfl, rfl⟩⟩, H2.out.2.2⟩
  case round =>
    obtain ⟨j, hj, rfl, y, hX, hX1, hown, hB⟩ := hrel
    have hys : ∃ ay cy, y = .slice ay j cy := by
      rcases hown.2 with ⟨hv, h0⟩ | ⟨gg, cap2, cur, hv, _⟩
      · exact ⟨none, 0, by rw [hv, h0]⟩
      · exact ⟨_, _, hv⟩
    obtain ⟨ay, cy, rfl⟩ := hys
    have HX := hid (And.intro hX hX1)
    have HOw := hid hown
    have HB := hid hB
    clear hX hX1 hown hB
    have hj0 : (0 : Int) ≤ (j : Int) := Int.natCast_nonneg _
    by_cases hjn : j = n
    · have hj1 : ¬ ((j : Int) < (n : Int)) := by omega
      have HE : Hid (j = n ∧ l.take j = l) := hid ⟨hjn, by rw [hjn, ← HN.out.1, List.take_length]⟩
      clear hj hjn
      have u0 := HX.out.1.cell 0 _ rfl; have u1 := HX.out.1.cell 1 _ rfl; have u2 := HX.out.1.cell 2 _ rfl; have u3 := HX.out.1.cell 3 _ rfl; have u4 := HX.out.1.cell 4 _ rfl; have u5 := HX.out.1.cell 5 _ rfl; have u6 := HX.out.1.cell 6 _ rfl; have u7 := HX.out.1.cell 7 _ rfl; have u8 := HX.out.1.cell 8 _ rfl
      go_wp2_with (refine wl_store_blk rfl 52 _ _ rfl (w.heap.size + 1) 0 rfl #[.int .i64 v, .int .i64 sl, .int .i64 r.c, .int .i64 r.st, .int .i64 r.k, .string r.key, .float .f64 r.b, .int .i64 r.id, .slice ay j cy] rfl [.int .i64 0, .int .i64 0, .int .i64 0, .int .i64 0, .int .i64 0, .string ⟨#[]⟩, .float .f64 0, .int .i64 0, .slice none 0 0] 52 HX.out.2 (by simp) (by kernel_rfl) (by simp [Value.oneCell']) ?_; intro w9 Hz; go_must (have H9 : Hid (BxAt w9 (w.heap.size + 1) [.int .i64 v, .int .i64 sl, .int .i64 r.c, .int .i64 r.st, .int .i64 r.k, .string r.key, .float .f64 r.b, .int .i64 r.id, .slice ay j cy] 52 ∧ One (w.heap.size + 1) wr w9) := hid Hz.out); clear Hz)
      refine ret_oneD (s := 10) (ad := ⟨w.heap.size + 1, 0, none⟩) rfl rfl (load_blk H9.out.1 _ Try.underlying52 rfl (by kernel_rfl)) rfl ?_
      have ho := HOw.out
      have hl : ((l.take j).map fun m => (m, tx)).length = j := by rw [HE.out.2, List.length_map, HE.out.1]; exact HN.out.1
      have ho2 : w9.ownsRow (w.heap.size + 3) 24 2 (.slice ay j cy) ((l.take j).map fun m => (m, tx)).length (pC ((l.take j).map fun m => (m, tx))) := by
        rw [hl]
        refine ⟨ho.1, ?_⟩
        rcases ho.2 with e | ⟨k, cap, cur, hv, hB2, hh, hr⟩
        · exact .inl e
        · exact .inr ⟨k, cap, cur, hv, hB2, (H9.out.2.block k (by omega)).trans hh, hr⟩
      obtain ⟨ad, cp, hv, hp⟩ := own_pairsT ho2
      rw [hl] at hv
      cases hv
      refine ⟨ay, ⟨cy, by rw [HE.out.1]⟩, by rw [HE.out.2] at hp; exact hp, fun x hx => ?_, H9.out.2.below HB.out (by omega)⟩
      have := (ho2.lt x.block (by rw [hx]; rfl)).1
      omega
    · have hj1 : (j : Int) < (n : Int) := by omega
      have hjl : j < l.length := by have := HN.out.1; omega
      obtain ⟨ga, off, rfl, hga, hcell⟩ := HI.out.at j _ (getD_some hjl)
      have HGa0 := hid hga
      have HTk : Hid (l.take j ++ [l.getD j 0] = l.take (j + 1)) := hid (by rw [List.take_succ_eq_append_getElem hjl]; simp [hjl])
      have hcw : wr.cell? ⟨ga, off + j, none⟩ = some (.int .i64 (l.getD j 0)) := (HB.out.cell (p := ⟨ga, off + j, none⟩) hga).trans hcell
      generalize l.getD j 0 = M at HTk hcw
      have HJ : Hid (j ≤ 1000 ∧ j < n) := hid ⟨by omega, by omega⟩
      have HSz : Hid (w.heap.size + 3 ≤ wr.heap.size) := hid (by have := lt_of_blk HX.out.1; omega)
      have HGa : Hid (ga < wr.drew.heap.size) := hid (Nat.lt_of_lt_of_le hga HB.out.size)
      have HGw : Hid (ga < w.heap.size + 3) := hid (by omega)
      have HS : Hid (wr.drew.heap[w.heap.size + 2]? = some (.cells #[.int .i64 v, .int .i64 sl, .int .i64 r.c, .int .i64 r.st, .int .i64 r.k, .string r.key, .float .f64 r.b, .int .i64 r.id, .slice ay j cy] 52 (0, 0)) ∧ wr.drew.cell? ⟨ga, off + j, none⟩ = some (.int .i64 M)) := hid ⟨HX.out.1, hcw⟩
      clear hj hjn hjl hga hcell hcw
      go_wp2_with fail
      refine wp_region_G (S := fun ww => ww.heap[w.heap.size + 2]? = some (.cells #[.int .i64 v, .int .i64 sl, .int .i64 r.c, .int .i64 r.st, .int .i64 r.k, .string r.key, .float .f64 r.b, .int .i64 r.id, .slice ay j cy] 52 (0, 0)) ∧ ww.cell? ⟨ga, off + j, none⟩ = some (.int .i64 M)) (ex := [11]) (by kernel_rfl) ?_
      try (change wpAnyG _ _ _ _ _ _ _ _ _ (World.drew _))
      refine wpAnyG_take (i := 0) (v := ?v1) rfl (by kernel_rfl) (fun _ _ _ h => h) (Or.inl ⟨by rfl, ?hy1⟩) HS.out ?rest1
      case hy1 => (intro ww _; go_simp; try with_reducible rfl)
      go_simp
      refine wpAnyG_take (i := 1) (v := ?v2) rfl (by kernel_rfl) (fun _ _ _ h => h) (Or.inl ⟨by rfl, ?hy2⟩) HS.out ?rest2
      case hy2 => (intro ww hS; have y8 := cell_at (L := [_, _, _, _, _, _, _, _, _]) hS.1 8 _ rfl; go_simp; try with_reducible rfl)
      go_simp
      refine wpAnyG_take (i := 2) (v := ?v3) rfl (by kernel_rfl) (fun _ _ _ h => h) (Or.inl ⟨by rfl, ?hy3⟩) HS.out ?rest3
      case hy3 => (intro ww _; go_simp; try with_reducible rfl)
      go_simp
      refine wpAnyG_take (i := 3) (v := ?v4) rfl (by kernel_rfl) (fun _ _ _ h => h) (Or.inl ⟨by rfl, ?hy4⟩) HS.out ?rest4
      case hy4 => (intro ww _; go_simp; try with_reducible rfl)
      go_simp
      refine wpAnyG_take (i := 4) (v := ?v5) rfl (by kernel_rfl) (fun _ _ _ h => h) (Or.inl ⟨by rfl, ?hy5⟩) HS.out ?rest5
      case hy5 => (intro ww _; go_simp; try with_reducible rfl)
      go_simp
      refine wpAnyG_take (i := 5) (v := ?v6) rfl (by kernel_rfl) (fun _ _ _ h => h) (Or.inl ⟨by rfl, ?hy6⟩) HS.out ?rest6
      case hy6 => (intro ww hS; have ym := hS.2; go_simp; try with_reducible rfl)
      go_simp
      refine wpAnyG_take (i := 6) (v := ?v7) rfl (by kernel_rfl) (fun _ _ _ h => h) (Or.inl ⟨by rfl, ?hy7⟩) HS.out ?rest7
      case hy7 => (intro ww _; go_simp; try with_reducible rfl)
      go_simp
      refine wpAnyG_take (i := 7) (v := ?v8) rfl (by kernel_rfl) (fun _ _ _ h => h) (Or.inl ⟨by rfl, ?hy8⟩) HS.out ?rest8
      case hy8 => (intro ww _; go_simp; try with_reducible rfl)
      go_simp
      refine wpAnyG_all (rs := [8]) (by kernel_rfl) (by simp) ?_
      intro i hi
      obtain rfl := List.mem_singleton.1 hi
      clear hi
      refine wpOp_d rfl (by rfl) (fun K hK => ?_)
      go_simp
      have hba := (Below.refl wr.drew.heap.size wr.drew).alloc (Nat.le_refl _) (.cells #[.int .i64 M, .string tx] 24)
      have H6 : Hid (((wr.drew.alloc (.cells #[.int .i64 M, .string tx] 24)).heap[w.heap.size + 2]? = some (.cells #[.int .i64 v, .int .i64 sl, .int .i64 r.c, .int .i64 r.st, .int .i64 r.k, .string r.key, .float .f64 r.b, .int .i64 r.id, .slice ay j cy] 52 (0, 0)) ∧ (wr.drew.alloc (.cells #[.int .i64 M, .string tx] 24)).cell? ⟨ga, off + j, none⟩ = some (.int .i64 M)) ∧ (wr.drew.alloc (.cells #[.int .i64 M, .string tx] 24)).ownsRow (w.heap.size + 3) 24 2 (.slice ay j cy) j (pC ((l.take j).map fun m => (m, tx))) ∧ Below wr.heap.size wr (wr.drew.alloc (.cells #[.int .i64 M, .string tx] 24))) := hid ⟨⟨(hba.block _ (lt_of_blk HS.out.1)).trans HS.out.1, (hba.cell (p := ⟨ga, off + j, none⟩) HGa.out).trans HS.out.2⟩, HOw.out.alloc _, (Below.refl wr.heap.size wr).drew.trans hba⟩
      clear hba
      refine hK _ _ ⟨fun _ => H6.out.1, ?_⟩
      clear hK K
      go_simp
      refine wpAnyG_all (rs := [9]) (by kernel_rfl) (by simp) ?_
      intro i hi
      obtain rfl := List.mem_singleton.1 hi
      clear hi
      refine wpOp_d rfl (by rfl) (fun K hK => ?_)
      refine owp_append_at _ _ 50 rfl (w.heap.size + 3) 24 iv (.agg #[.int .i64 0, .string ⟨#[]⟩]) 2 24 Try.underlying50 hv0 hvz0 hvz1 hvz2 rfl (by decide) (.slice ay j cy) j (pC ((l.take j).map fun m => (m, tx))) rfl H6.out.2.1 ⟨wr.heap.size, 0, none⟩ 1 1 (pC [(M, tx)]) rfl rfl (World.news_of_block (t := 24) (fr := (0, 0)) (heap_alloc_last wr.drew _)) (by simp [pC, Value.oneCell']) (by have := HJ.out; unfold maxLen; omega) (by have := HJ.out; omega) (by have := HSz.out; simp; omega) (fun v7 w7 hown7 hgrow7 hob7 => ?_)
      have hc7 : v7.cells = #[v7] ∧ v7.oneCell' = true := by
        rcases hown7.2 with ⟨hv, _⟩ | ⟨_, _, _, hv, _⟩ <;> (rw [hv]; exact ⟨rfl, rfl⟩)
      have hne : ∀ k, k < w.heap.size + 3 → some k ≠ (Value.slice ay j cy).ownBlock := fun k hk e => by have := (H6.out.2.1.lt k e.symm).1; omega
      have H7 : Hid ((w7.heap[w.heap.size + 2]? = some (.cells #[.int .i64 v, .int .i64 sl, .int .i64 r.c, .int .i64 r.st, .int .i64 r.k, .string r.key, .float .f64 r.b, .int .i64 r.id, .slice ay j cy] 52 (0, 0)) ∧ w7.cell? ⟨ga, off + j, none⟩ = some (.int .i64 M)) ∧ w7.ownsRow (w.heap.size + 3) 24 2 v7 (j + 1) (pC ((l.take (j + 1)).map fun m => (m, tx))) ∧ (v7.cells = #[v7] ∧ v7.oneCell' = true) ∧ Below (w.heap.size + 3) wr w7) := hid (by
        have hb6 := H6.out.2.2
        have hbg : Below (w.heap.size + 3) (wr.drew.alloc (.cells #[.int .i64 M, .string tx] 24)) w7 := ⟨hgrow7.os, hgrow7.tape, hgrow7.output, hgrow7.size, fun k hk => hgrow7.block k (by have := HSz.out; simp; omega) (hne k hk)⟩
        refine ⟨⟨(hbg.block _ (by omega)).trans H6.out.1.1, (hbg.cell (p := ⟨ga, off + j, none⟩) HGw.out).trans H6.out.1.2⟩, ?_, hc7, (hb6.mono HSz.out).trans hbg⟩
        rw [← HTk.out, List.map_append, pC_app]
        exact hown7)
      clear hown7 hgrow7 hob7 hc7 hne
      go_simp
      refine hK _ _ ⟨fun _ => H7.out.1, ?_⟩
      clear hK K
      go_simp
      refine wpAnyG_take (i := 10) (v := ?v9) rfl (by kernel_rfl) (fun _ _ _ h => h) (Or.inl ⟨by rfl, ?hy9⟩) H7.out.1 ?rest9
      case hy9 => (intro ww _; go_simp; try with_reducible rfl)
      go_simp
      refine wpAnyG_all (rs := [11]) (by kernel_rfl) (by simp) ?_
      intro i hi
      obtain rfl := List.mem_singleton.1 hi
      clear hi
      refine wpOp_d rfl (by rfl) (fun K hK => ?_)
      refine owp_storeV 50 _ _ rfl (w.heap.size + 2) 8 (by rfl) v7 (by rfl) H7.out.2.2.1.1 H7.out.2.2.1.2 [.int .i64 v, .int .i64 sl, .int .i64 r.c, .int .i64 r.st, .int .i64 r.k, .string r.key, .float .f64 r.b, .int .i64 r.id, .slice ay j cy] _ H7.out.1.1 (by simp) (by kernel_rfl) (fun w8 Hz => ?_)
      refine hK _ _ ⟨fun h => absurd (by simp) h, ?_⟩
      clear hK K
      go_simp
      refine wpAnyG_done (by kernel_rfl) ?_ _
      go_simp
      go_wp2
      go_roundw
      case rel => exact ⟨j + 1, by have := HJ.out; omega, by go_num, v7, Hz.out.1, ((Hz.out.2.block _ (by omega)).trans (H7.out.2.2.2.block _ (by omega))).trans HX.out.2, ⟨H7.out.2.1.1, by
        rcases H7.out.2.1.2 with e | ⟨k, cap, cur, hv, hB2, hh, hr⟩
        · exact .inl e
        · exact .inr ⟨k, cap, cur, hv, hB2, (Hz.out.2.block k (by omega)).trans hh, hr⟩⟩, Hz.out.2.below (HB.out.trans (H7.out.2.2.2.mono (by omega))) (by omega)⟩
      case measure => simp [intOf]; omega
end Go.Proofs.Ythoofboegchodaa
