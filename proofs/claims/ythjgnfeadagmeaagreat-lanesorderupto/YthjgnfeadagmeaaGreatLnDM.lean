/- The program's copies: certificates, changes, links. -/
import Derived.Test.YthjgnfeadagmeaaGreatOa6
import Derived.Test.YthjgnfeadagmeaaGreatOa3
namespace Go.Proofs.YthjgnfeadagmeaaGreat
open Go.RowKit

set_option maxRecDepth 100000 in
set_option maxHeartbeats 3200000 in
theorem nownCert_any {F : Nat → Prop} (c : Ct) (hc : ctS c) (v : Value) (w : World) (hv : Reads F w v (dPairs c.2.2.2)) :
    Calls Tryz.prog 98 #[.agg #[.int .i64 c.1, .int .i64 c.2.1, .int .i64 c.2.2.1.c, .int .i64 c.2.2.1.st, .int .i64 c.2.2.1.k, .string c.2.2.1.key, .float .f64 c.2.2.1.b, .int .i64 c.2.2.1.id, v]] w fun e w' => ∃ v', e = .returned (.agg #[.int .i64 c.1, .int .i64 c.2.1, .int .i64 c.2.2.1.c, .int .i64 c.2.2.1.st, .int .i64 c.2.2.1.k, .string c.2.2.1.key, .float .f64 (canW c.2.2.1.b), .int .i64 c.2.2.1.id, v']) ∧ Reads (fun k => w.heap.size ≤ k) w' v' (dPairs c.2.2.2) ∧ Below w.heap.size w w' := by
  obtain ⟨a, k, rfl, _, _⟩ := reads_pairs hv
  obtain ⟨wa, ha, hb, hx, hz⟩ := two_newL [.int .i64 c.1, .int .i64 c.2.1, .int .i64 c.2.2.1.c, .int .i64 c.2.2.1.st, .int .i64 c.2.2.1.k, .string c.2.2.1.key, .float .f64 c.2.2.1.b, .int .i64 c.2.2.1.id, .slice a c.2.2.2.length k] [.int .i64 0, .int .i64 0, .int .i64 0, .int .i64 0, .int .i64 0, .string ⟨#[]⟩, .float .f64 0, .int .i64 0, .slice none 0 0] 92 92 w
  have HT := hid hc
  have HV := hid (fun (u : World) (hu : Below w.heap.size w u) => (hv).under hu (Nat.le_refl _))
  have HA := hid ha
  have S0 : Hid (Below w.heap.size w wa ∧ BxAt wa w.heap.size [.int .i64 c.1, .int .i64 c.2.1, .int .i64 c.2.2.1.c, .int .i64 c.2.2.1.st, .int .i64 c.2.2.1.k, .string c.2.2.1.key, .float .f64 c.2.2.1.b, .int .i64 c.2.2.1.id, .slice a c.2.2.2.length k] 92 ∧ BxAt wa (w.heap.size + 1) [.int .i64 0, .int .i64 0, .int .i64 0, .int .i64 0, .int .i64 0, .string ⟨#[]⟩, .float .f64 0, .int .i64 0, .slice none 0 0] 92) := hid ⟨hb, hx, hz⟩
  clear ha hb hx hz hc hv
  go_enter Tryz.func98, Tryz.ntmps98
  go_upto_region 1 with fail
  rw [HA.out]
  go_wp2_with (first
    | (have := S2; refine wl_store_blk rfl 92 _ _ rfl (w.heap.size + 1) 0 rfl _ rfl [.int .i64 0, .int .i64 0, .int .i64 0, .int .i64 0, .int .i64 0, .string ⟨#[]⟩, .float .f64 0, .int .i64 0, .slice none 0 0] 92 S2.out.2.2.1 (by simp) (by kernel_rfl) (by simp [Value.oneCell']) ?_; go_must (intro wz Hz; have SZ : Hid (BxAt wz (w.heap.size + 1) [.int .i64 c.1, .int .i64 c.2.1, .int .i64 c.2.2.1.c, .int .i64 c.2.2.1.st, .int .i64 c.2.2.1.k, .string c.2.2.1.key, .float .f64 (canW c.2.2.1.b), .int .i64 c.2.2.1.id, .slice a1 (c.2.2.2).length c1] 92 ∧ One (w.heap.size + 1) w2s wz) := hid Hz.out; clear Hz))
    | (have := S2; refine wl_loadB rfl 92 _ rfl w.heap.size 0 rfl [.int .i64 c.1, .int .i64 c.2.1, .int .i64 c.2.2.1.c, .int .i64 c.2.2.1.st, .int .i64 c.2.2.1.k, .string c.2.2.1.key, .float .f64 (canW c.2.2.1.b), .int .i64 c.2.2.1.id, .slice a1 (c.2.2.2).length c1] 92 S2.out.2.1 _ Tryz.underlying92 rfl (by kernel_rfl) (.agg #[.int .i64 c.1, .int .i64 c.2.1, .int .i64 c.2.2.1.c, .int .i64 c.2.2.1.st, .int .i64 c.2.2.1.k, .string c.2.2.1.key, .float .f64 (canW c.2.2.1.b), .int .i64 c.2.2.1.id, .slice a1 (c.2.2.2).length c1]) rfl rfl ?_)
    | (have := C2; refine wl_stone rfl 44 _ _ rfl w.heap.size 8 rfl (.slice a1 (c.2.2.2).length c1) rfl rfl rfl [.int .i64 c.1, .int .i64 c.2.1, .int .i64 c.2.2.1.c, .int .i64 c.2.2.1.st, .int .i64 c.2.2.1.k, .string c.2.2.1.key, .float .f64 (canW c.2.2.1.b), .int .i64 c.2.2.1.id, .slice a c.2.2.2.length k] 92 C2.out.2.1 (by simp) (by kernel_rfl) ?_; go_must (intro w2s Hz; have S2 : Hid (Below w.heap.size w w2s ∧ BxAt w2s w.heap.size [.int .i64 c.1, .int .i64 c.2.1, .int .i64 c.2.2.1.c, .int .i64 c.2.2.1.st, .int .i64 c.2.2.1.k, .string c.2.2.1.key, .float .f64 (canW c.2.2.1.b), .int .i64 c.2.2.1.id, .slice a1 (c.2.2.2).length c1] 92 ∧ BxAt w2s (w.heap.size + 1) [.int .i64 0, .int .i64 0, .int .i64 0, .int .i64 0, .int .i64 0, .string ⟨#[]⟩, .float .f64 0, .int .i64 0, .slice none 0 0] 92 ∧ Reads (fun k => w.heap.size + 2 ≤ k) w2s (.slice a1 (c.2.2.2).length c1) (dPairs (c.2.2.2))) := hid ⟨Hz.out.2.below C2.out.1 (Nat.le_refl _), Hz.out.1, (Hz.out.2.block _ (by omega)).trans C2.out.2.2.1, (C2.out.2.2.2).keep (Nat.le_of_eq Hz.out.2.size.symm) (fun k _ hk => Hz.out.2.block k (by have hk : w.heap.size + 2 ≤ k := hk; omega))⟩; clear Hz))
    | (have := S1; go_at_call 58; go_must (refine (nownSigs_any (c.2.2.2) a k HT.out.2 _ (HV.out _ S1.out.1)).mono ?_; rintro e w2 ⟨a1, c1, rfl, hr, hb⟩; have hB := S1.out.1; have C2 : Hid (Below w.heap.size w w2 ∧ BxAt w2 w.heap.size [.int .i64 c.1, .int .i64 c.2.1, .int .i64 c.2.2.1.c, .int .i64 c.2.2.1.st, .int .i64 c.2.2.1.k, .string c.2.2.1.key, .float .f64 (canW c.2.2.1.b), .int .i64 c.2.2.1.id, .slice a c.2.2.2.length k] 92 ∧ BxAt w2 (w.heap.size + 1) [.int .i64 0, .int .i64 0, .int .i64 0, .int .i64 0, .int .i64 0, .string ⟨#[]⟩, .float .f64 0, .int .i64 0, .slice none 0 0] 92 ∧ Reads (fun k => w.heap.size + 2 ≤ k) w2 (.slice a1 (c.2.2.2).length c1) (dPairs (c.2.2.2))) := hid ⟨hB.trans (hb.mono hB.size), S1.out.2.1.keep hb, S1.out.2.2.keep hb, hr.mono (fun k _ hk => by have h9 := lt_of_blk S1.out.2.2; have hk : _ ≤ k := hk; show w.heap.size + 2 ≤ k; omega)⟩; clear hb hB; clear hr))
    | (have := C1; refine wl_store_blk rfl 41 _ _ rfl w.heap.size 2 rfl _ rfl [.int .i64 c.1, .int .i64 c.2.1, .int .i64 c.2.2.1.c, .int .i64 c.2.2.1.st, .int .i64 c.2.2.1.k, .string c.2.2.1.key, .float .f64 c.2.2.1.b, .int .i64 c.2.2.1.id, .slice a c.2.2.2.length k] 92 C1.out.2.1 (by simp) (by kernel_rfl) (by simp [Value.oneCell']) ?_; go_must (intro w1s Hz; have S1 : Hid (Below w.heap.size w w1s ∧ BxAt w1s w.heap.size [.int .i64 c.1, .int .i64 c.2.1, .int .i64 c.2.2.1.c, .int .i64 c.2.2.1.st, .int .i64 c.2.2.1.k, .string c.2.2.1.key, .float .f64 (canW c.2.2.1.b), .int .i64 c.2.2.1.id, .slice a c.2.2.2.length k] 92 ∧ BxAt w1s (w.heap.size + 1) [.int .i64 0, .int .i64 0, .int .i64 0, .int .i64 0, .int .i64 0, .string ⟨#[]⟩, .float .f64 0, .int .i64 0, .slice none 0 0] 92) := hid ⟨Hz.out.2.below C1.out.1 (Nat.le_refl _), Hz.out.1, (Hz.out.2.block _ (by omega)).trans C1.out.2.2⟩; clear Hz; have z8 := S1.out.2.1.cell 8 _ rfl))
    | (have := S0; go_at_call 55; go_must (refine (nownRq_any (c.2.2.1) (by exact HT.out.1) _).mono ?_; rintro e w1 ⟨rfl, hb⟩; have hB := S0.out.1; have C1 : Hid (Below w.heap.size w w1 ∧ BxAt w1 w.heap.size [.int .i64 c.1, .int .i64 c.2.1, .int .i64 c.2.2.1.c, .int .i64 c.2.2.1.st, .int .i64 c.2.2.1.k, .string c.2.2.1.key, .float .f64 c.2.2.1.b, .int .i64 c.2.2.1.id, .slice a c.2.2.2.length k] 92 ∧ BxAt w1 (w.heap.size + 1) [.int .i64 0, .int .i64 0, .int .i64 0, .int .i64 0, .int .i64 0, .string ⟨#[]⟩, .float .f64 0, .int .i64 0, .slice none 0 0] 92) := hid ⟨hB.trans (hb.mono hB.size), S0.out.2.1.keep hb, S0.out.2.2.keep hb⟩; clear hb hB))
    | (have := S0; refine wl_ldat rfl 41 _ rfl w.heap.size 2 rfl [.int .i64 c.2.2.1.c, .int .i64 c.2.2.1.st, .int .i64 c.2.2.1.k, .string c.2.2.1.key, .float .f64 c.2.2.1.b, .int .i64 c.2.2.1.id] (fun j v hv => by rw [show w.heap.size = w.heap.size from rfl]; exact sub_cell S0.out.2.1 2 _ (by rfl) j v hv) _ Tryz.underlying41 rfl (by kernel_rfl) (.agg #[.int .i64 c.2.2.1.c, .int .i64 c.2.2.1.st, .int .i64 c.2.2.1.k, .string c.2.2.1.key, .float .f64 c.2.2.1.b, .int .i64 c.2.2.1.id]) rfl ?_))
  refine ret_cell1 (s := 2) (ad := ⟨w.heap.size + 1, 0, none⟩) rfl rfl (load_whole SZ.out.1 _ Tryz.underlying92 rfl (by kernel_rfl)) rfl ?_
  have hBz : Below w.heap.size w wz := SZ.out.2.below S2.out.1 (by omega)
  have hE0 := (S2.out.2.2.2).keep (Nat.le_of_eq SZ.out.2.size.symm) (fun k _ hk => SZ.out.2.block k (by have hk : w.heap.size + 2 ≤ k := hk; omega))
  exact ⟨_, rfl, hE0.mono (fun k _ hk => by have hk : w.heap.size + 2 ≤ k := hk; show w.heap.size ≤ k; omega), hBz⟩
set_option maxRecDepth 100000 in
set_option maxHeartbeats 3200000 in
theorem nlistCert_any {F : Nat → Prop} (l : List Ct) (a : Option Addr) (cap : Nat) (hm : l.length * 96 ≤ 140737488355328) (hl : ∀ c, c ∈ l → ctS c) (w : World) (hI : Reads F w (.slice a l.length cap) (.l 9 (l.map dCt))) :
    Calls Tryz.prog 97 #[.slice a l.length cap, .func (.func 98) #[] #[]] w fun e w' => ∃ a1 c1, e = .returned (.slice a1 l.length c1) ∧ Reads (fun k => w.heap.size ≤ k) w' (.slice a1 l.length c1) (.l 9 ((l.map nCt).map dCt)) ∧ Below w.heap.size w w' := by
  have hwd : ∀ e, e ∈ l.map dCt → e.length = 9 := fun e he => by
    obtain ⟨c, _, rfl⟩ := List.mem_map.1 he
    rfl
  have hwn : ∀ e, e ∈ (l.map nCt).map dCt → e.length = 9 := fun e he => by
    obtain ⟨c, _, rfl⟩ := List.mem_map.1 he
    rfl
  have HC := hid (ncloneCert_any (l.map dCt) ((l.map nCt).map dCt) a l.length cap hwd (by rw [List.length_map]; exact hm) w hI)
  have hll : (l.length : Int) ≤ 140737488355328 := by omega
  have HL := hid (And.intro hl (And.intro hwn hll))
  obtain ⟨fs, hfs⟩ : ∃ fs, fs = (l.map nCt).map dCt := ⟨_, rfl⟩
  rw [← hfs] at HC HL ⊢
  have HF := hid hfs
  clear hm hl hI hwd hwn hll hfs
  go_enter Tryz.func97, Tryz.ntmps97
  go_wp2_with (go_at_call 132; go_must (refine (HC.out).mono ?_; rintro e w1 ⟨a1, c1, rfl, hb, hS⟩; have H1 := hid (And.intro hb hS); clear hb hS))
  go_loopw [10] (fun i wr => ∃ (j : Nat), j ≤ l.length ∧ i = .int .i64 (j : Int) ∧ Below w.heap.size w wr ∧ (l.length = 0 ∨ ∃ b G X, a1 = some ⟨b, 0, none⟩ ∧ OlSt 92 9 b w wr (l.map dCt) fs G X j))
    (fun i _ => ((l.length : Int) - intOf i).toNat)
  case atStart => exact ⟨0, by omega, rfl, H1.out⟩
  case round =>
    obtain ⟨j, hj, rfl, hB, hS⟩ := hrel
    have HS := hid (And.intro hB hS)
    clear hB hS
    by_cases hjn : j = l.length
    · have hj1 : ¬ ((j : Int) < (l.length : Int)) := by omega
      have HJ := hid hjn
      clear hj hjn
      go_wp2
      go_ret
      have hfin : Reads (fun k => w.heap.size ≤ k) wr (.slice a1 l.length c1) (.l 9 fs) := by
        rcases HS.out.2 with h0 | ⟨b, G, X, rfl, hS⟩
        · obtain rfl := List.eq_nil_of_length_eq_zero h0
          have hf0 : fs = [] := HF.out
          rw [hf0]
          exact .nil _ _ _
        · have h2 := hS
          rw [HJ.out, show l.length = (l.map dCt).length by simp] at h2
          have h3 := h2.all (by rw [HF.out]; simp) HL.out.2.1 c1
          rw [List.length_map] at h3
          exact h3
      first | exact ⟨a1, c1, rfl, hfin, HS.out.1⟩ | exact ⟨a1, ⟨c1, rfl⟩, hfin, HS.out.1⟩ | exact ⟨_, _, rfl, hfin, HS.out.1⟩
    · have hj1 : (j : Int) < (l.length : Int) := by omega
      have hj0 : (0 : Int) ≤ (j : Int) := Int.natCast_nonneg _
      have hjw : IntKind.i64.wrap ((j : Int) + 1) = (j : Int) + 1 := wrap_l3 (by have := HL.out.2.2; omega) (by have := HL.out.2.2; omega)
      obtain ⟨c, hc⟩ : ∃ c, l[j]? = some c := ⟨_, List.getElem?_eq_getElem (by omega)⟩
      obtain ⟨hB, hS⟩ := HS.out
      obtain ⟨b, G, X, rfl, hT⟩ := hS.resolve_left (by omega)
      clear hS
      have hS := hT
      clear hT
      obtain ⟨x, hx, hR⟩ := hS.rest j (dCt c) (Nat.le_refl _) (by rw [List.getElem?_map, hc]; rfl)
      obtain ⟨v, rfl, hr0⟩ := cellsCert hR
      have HR := hid hr0
      have H2 : Hid (OlSt 92 9 b w wr (l.map dCt) fs G X j ∧ G[j]? = some (ctC c v)) := hid ⟨hS, hx⟩
      have HJ := hid (And.intro hj (And.intro hjn hc))
      have hlen : j * 9 + 9 ≤ (G.flatten ++ X).length := by
        have h1 := jn_len hS.wid
        have h2 := hS.len
        rw [List.length_map] at h2
        rw [List.length_append, h1, h2]
        omega
      have HLn := hid hlen
      clear hB hS hR hx hj hjn hc hlen hr0
      go_wp2_with (first
        | (have := H3; refine wl_store_blk rfl 92 _ _ rfl b (j * 9) rfl _ rfl (G.flatten ++ X) 92 H3.out.1.blk (by exact HLn.out) (by kernel_rfl) (by have h9 := H3.out.2.2.cell1; revert h9; cases v' <;> simp [Value.oneCell']) ?_; go_must (intro w3 Hz; have H4 := Hz; clear Hz))
        | (go_at_call 98; go_must (refine (nownCert_any c (HL.out.1 c (List.mem_of_getElem? HJ.out.2.2)) v _ HR.out).mono ?_; rintro e w2 ⟨v', rfl, hr, hb⟩; have H3 : Hid (OlSt 92 9 b w w2 (l.map dCt) fs G X j ∧ Below wr.heap.size wr w2 ∧ Reads (fun k => wr.heap.size ≤ k) w2 v' (dPairs c.2.2.2)) := hid ⟨H2.out.1.keep hb, hb, hr⟩; clear hb hr))
        | (refine wl_ldat rfl 92 _ rfl b (j * 9) rfl [.int .i64 c.1, .int .i64 c.2.1, .int .i64 c.2.2.1.c, .int .i64 c.2.2.1.st, .int .i64 c.2.2.1.k, .string c.2.2.1.key, .float .f64 c.2.2.1.b, .int .i64 c.2.2.1.id, v] (fun q u hu => H2.out.1.at H2.out.2 q u hu) _ Tryz.underlying92 rfl (by kernel_rfl) (.agg #[.int .i64 c.1, .int .i64 c.2.1, .int .i64 c.2.2.1.c, .int .i64 c.2.2.1.st, .int .i64 c.2.2.1.k, .string c.2.2.1.key, .float .f64 c.2.2.1.b, .int .i64 c.2.2.1.id, v]) rfl ?_))
      go_roundw
      case rel =>
        have hbb := lt_of_blk H2.out.1.blk
        have hsw := H2.out.1.bel.size
        have hj2 := HJ.out
        refine ⟨j + 1, by omega, by simp, H4.out.2.below H3.out.1.bel H3.out.1.low, .inr ⟨b, _, X, rfl, H3.out.1.put [.int .i64 c.1, .int .i64 c.2.1, .int .i64 c.2.2.1.c, .int .i64 c.2.2.1.st, .int .i64 c.2.2.1.k, .string c.2.2.1.key, .float .f64 (canW c.2.2.1.b), .int .i64 c.2.2.1.id, v'] (dCt (nCt c)) (by rw [List.length_map]; omega) (by rw [HF.out]; simp [hj2.2.2]) rfl ?_ H4.out.2 H4.out.1⟩⟩
        exact rowdCert (c := (nCt c)) (H3.out.2.2.mono (fun k _ hk => ⟨Nat.le_trans hsw hk, by have hk : wr.heap.size ≤ k := hk; omega⟩))
      case measure => have := HJ.out; simp [intOf]; omega
set_option maxRecDepth 100000 in
set_option maxHeartbeats 3200000 in
theorem nownChange_any {F : Nat → Prop} (c : Cg) (hc : cgS c) (v : Value) (w : World) (hv : Reads F w v (dCts c.2.2.1)) :
    Calls Tryz.prog 60 #[.agg #[.int .i64 c.1, .int .i64 c.2.1, v, .int .i64 c.2.2.2.1, .string c.2.2.2.2]] w fun e w' => ∃ v', e = .returned (.agg #[.int .i64 c.1, .int .i64 c.2.1, v', .int .i64 c.2.2.2.1, .string c.2.2.2.2]) ∧ Reads (fun k => w.heap.size ≤ k) w' v' (dCts (c.2.2.1.map nCt)) ∧ Below w.heap.size w w' := by
  obtain ⟨a, k, hva⟩ := hv.form
  rw [List.length_map] at hva
  subst hva
  obtain ⟨wa, ha, hb, hx, hz⟩ := two_newL [.int .i64 c.1, .int .i64 c.2.1, .slice a c.2.2.1.length k, .int .i64 c.2.2.2.1, .string c.2.2.2.2] [.int .i64 0, .int .i64 0, .slice none 0 0, .int .i64 0, .string ⟨#[]⟩] 90 90 w
  have HT := hid hc
  have HV := hid (fun (u : World) (hu : Below w.heap.size w u) => (hv).under hu (Nat.le_refl _))
  have HA := hid ha
  have S0 : Hid (Below w.heap.size w wa ∧ BxAt wa w.heap.size [.int .i64 c.1, .int .i64 c.2.1, .slice a c.2.2.1.length k, .int .i64 c.2.2.2.1, .string c.2.2.2.2] 90 ∧ BxAt wa (w.heap.size + 1) [.int .i64 0, .int .i64 0, .slice none 0 0, .int .i64 0, .string ⟨#[]⟩] 90) := hid ⟨hb, hx, hz⟩
  clear ha hb hx hz hc hv
  have z2 := S0.out.2.1.cell 2 _ rfl
  go_enter Tryz.func60, Tryz.ntmps60
  go_upto_region 1 with fail
  rw [HA.out]
  go_wp2_with (first
    | (have := S2; refine wl_store_blk rfl 90 _ _ rfl (w.heap.size + 1) 0 rfl _ rfl [.int .i64 0, .int .i64 0, .slice none 0 0, .int .i64 0, .string ⟨#[]⟩] 90 S2.out.2.2.1 (by simp) (by kernel_rfl) (by simp [Value.oneCell']) ?_; go_must (intro wz Hz; have SZ : Hid (BxAt wz (w.heap.size + 1) [.int .i64 c.1, .int .i64 c.2.1, .slice a1 c.2.2.1.length c1, .int .i64 c.2.2.2.1, .string c.2.2.2.2] 90 ∧ One (w.heap.size + 1) w2s wz) := hid Hz.out; clear Hz))
    | (have := S2; refine wl_loadB rfl 90 _ rfl w.heap.size 0 rfl [.int .i64 c.1, .int .i64 c.2.1, .slice a1 c.2.2.1.length c1, .int .i64 c.2.2.2.1, .string c.2.2.2.2] 90 S2.out.2.1 _ Tryz.underlying90 rfl (by kernel_rfl) (.agg #[.int .i64 c.1, .int .i64 c.2.1, .slice a1 c.2.2.1.length c1, .int .i64 c.2.2.2.1, .string c.2.2.2.2]) rfl rfl ?_)
    | (have := C2; refine wl_store_blk rfl 87 _ _ rfl w.heap.size 3 rfl _ rfl [.int .i64 c.1, .int .i64 c.2.1, .slice a1 c.2.2.1.length c1, .int .i64 c.2.2.2.1, .string c.2.2.2.2] 90 C2.out.2.1 (by simp) (by kernel_rfl) (by simp [Value.oneCell']) ?_; go_must (intro w2s Hz; have S2 : Hid (Below w.heap.size w w2s ∧ BxAt w2s w.heap.size [.int .i64 c.1, .int .i64 c.2.1, .slice a1 c.2.2.1.length c1, .int .i64 c.2.2.2.1, .string c.2.2.2.2] 90 ∧ BxAt w2s (w.heap.size + 1) [.int .i64 0, .int .i64 0, .slice none 0 0, .int .i64 0, .string ⟨#[]⟩] 90 ∧ Reads (fun k => w.heap.size + 2 ≤ k) w2s (.slice a1 c.2.2.1.length c1) (dCts (c.2.2.1.map nCt))) := hid ⟨Hz.out.2.below C2.out.1 (Nat.le_refl _), Hz.out.1, (Hz.out.2.block _ (by omega)).trans C2.out.2.2.1, (C2.out.2.2.2).keep (Nat.le_of_eq Hz.out.2.size.symm) (fun k _ hk => Hz.out.2.block k (by have hk : w.heap.size + 2 ≤ k := hk; omega))⟩; clear Hz))
    | (have := S1; go_at_call 95; go_must (refine (nownSig_any _ _ HT.out.2 _).mono ?_; rintro e w2 ⟨rfl, hb⟩; have hB := S1.out.1; have C2 : Hid (Below w.heap.size w w2 ∧ BxAt w2 w.heap.size [.int .i64 c.1, .int .i64 c.2.1, .slice a1 c.2.2.1.length c1, .int .i64 c.2.2.2.1, .string c.2.2.2.2] 90 ∧ BxAt w2 (w.heap.size + 1) [.int .i64 0, .int .i64 0, .slice none 0 0, .int .i64 0, .string ⟨#[]⟩] 90 ∧ Reads (fun k => w.heap.size + 2 ≤ k) w2 (.slice a1 c.2.2.1.length c1) (dCts (c.2.2.1.map nCt))) := hid ⟨hB.trans (hb.mono hB.size), S1.out.2.1.keep hb, S1.out.2.2.1.keep hb, (S1.out.2.2.2).under hb (Nat.le_refl _)⟩; clear hb hB))
    | (have := S1; refine wl_ldat rfl 87 _ rfl w.heap.size 3 rfl [.int .i64 c.2.2.2.1, .string c.2.2.2.2] (fun j v hv => by rw [show w.heap.size = w.heap.size from rfl]; exact sub_cell S1.out.2.1 3 _ (by rfl) j v hv) _ Tryz.underlying87 rfl (by kernel_rfl) (.agg #[.int .i64 c.2.2.2.1, .string c.2.2.2.2]) rfl ?_)
    | (have := C1; refine wl_stone rfl 88 _ _ rfl w.heap.size 2 rfl (.slice a1 c.2.2.1.length c1) rfl rfl rfl [.int .i64 c.1, .int .i64 c.2.1, .slice a c.2.2.1.length k, .int .i64 c.2.2.2.1, .string c.2.2.2.2] 90 C1.out.2.1 (by simp) (by kernel_rfl) ?_; go_must (intro w1s Hz; have S1 : Hid (Below w.heap.size w w1s ∧ BxAt w1s w.heap.size [.int .i64 c.1, .int .i64 c.2.1, .slice a1 c.2.2.1.length c1, .int .i64 c.2.2.2.1, .string c.2.2.2.2] 90 ∧ BxAt w1s (w.heap.size + 1) [.int .i64 0, .int .i64 0, .slice none 0 0, .int .i64 0, .string ⟨#[]⟩] 90 ∧ Reads (fun k => w.heap.size + 2 ≤ k) w1s (.slice a1 c.2.2.1.length c1) (dCts (c.2.2.1.map nCt))) := hid ⟨Hz.out.2.below C1.out.1 (Nat.le_refl _), Hz.out.1, (Hz.out.2.block _ (by omega)).trans C1.out.2.2.1, (C1.out.2.2.2).keep (Nat.le_of_eq Hz.out.2.size.symm) (fun k _ hk => Hz.out.2.block k (by have hk : w.heap.size + 2 ≤ k := hk; omega))⟩; clear Hz))
    | (have := S0; go_at_call 97; go_must (refine (nlistCert_any c.2.2.1 a k HT.out.1.1 HT.out.1.2 _ (HV.out _ S0.out.1)).mono ?_; rintro e w1 ⟨a1, c1, rfl, hr, hb⟩; have hB := S0.out.1; have C1 : Hid (Below w.heap.size w w1 ∧ BxAt w1 w.heap.size [.int .i64 c.1, .int .i64 c.2.1, .slice a c.2.2.1.length k, .int .i64 c.2.2.2.1, .string c.2.2.2.2] 90 ∧ BxAt w1 (w.heap.size + 1) [.int .i64 0, .int .i64 0, .slice none 0 0, .int .i64 0, .string ⟨#[]⟩] 90 ∧ Reads (fun k => w.heap.size + 2 ≤ k) w1 (.slice a1 c.2.2.1.length c1) (dCts (c.2.2.1.map nCt))) := hid ⟨hB.trans (hb.mono hB.size), S0.out.2.1.keep hb, S0.out.2.2.keep hb, hr.mono (fun k _ hk => by have h9 := lt_of_blk S0.out.2.2; have hk : _ ≤ k := hk; show w.heap.size + 2 ≤ k; omega)⟩; clear hb hB; clear hr)))
  refine ret_cell1 (s := 2) (ad := ⟨w.heap.size + 1, 0, none⟩) rfl rfl (load_whole SZ.out.1 _ Tryz.underlying90 rfl (by kernel_rfl)) rfl ?_
  have hBz : Below w.heap.size w wz := SZ.out.2.below S2.out.1 (by omega)
  have hE0 := (S2.out.2.2.2).keep (Nat.le_of_eq SZ.out.2.size.symm) (fun k _ hk => SZ.out.2.block k (by have hk : w.heap.size + 2 ≤ k := hk; omega))
  exact ⟨_, rfl, hE0.mono (fun k _ hk => by have hk : w.heap.size + 2 ≤ k := hk; show w.heap.size ≤ k; omega), hBz⟩
set_option maxRecDepth 100000 in
set_option maxHeartbeats 3200000 in
theorem nlistChange_any {F : Nat → Prop} (l : List Cg) (a : Option Addr) (cap : Nat) (hm : l.length * 64 ≤ 140737488355328) (hl : ∀ c, c ∈ l → cgS c) (w : World) (hI : Reads F w (.slice a l.length cap) (.l 5 (l.map dCg))) :
    Calls Tryz.prog 59 #[.slice a l.length cap, .func (.func 60) #[] #[]] w fun e w' => ∃ a1 c1, e = .returned (.slice a1 l.length c1) ∧ Reads (fun k => w.heap.size ≤ k) w' (.slice a1 l.length c1) (.l 5 ((l.map nCg).map dCg)) ∧ Below w.heap.size w w' := by
  have hwd : ∀ e, e ∈ l.map dCg → e.length = 5 := fun e he => by
    obtain ⟨c, _, rfl⟩ := List.mem_map.1 he
    rfl
  have hwn : ∀ e, e ∈ (l.map nCg).map dCg → e.length = 5 := fun e he => by
    obtain ⟨c, _, rfl⟩ := List.mem_map.1 he
    rfl
  have HC := hid (ncloneChange_any (l.map dCg) ((l.map nCg).map dCg) a l.length cap hwd (by rw [List.length_map]; exact hm) w hI)
  have hll : (l.length : Int) ≤ 140737488355328 := by omega
  have HL := hid (And.intro hl (And.intro hwn hll))
  obtain ⟨fs, hfs⟩ : ∃ fs, fs = (l.map nCg).map dCg := ⟨_, rfl⟩
  rw [← hfs] at HC HL ⊢
  have HF := hid hfs
  clear hm hl hI hwd hwn hll hfs
  go_enter Tryz.func59, Tryz.ntmps59
  go_wp2_with (go_at_call 96; go_must (refine (HC.out).mono ?_; rintro e w1 ⟨a1, c1, rfl, hb, hS⟩; have H1 := hid (And.intro hb hS); clear hb hS))
  go_loopw [10] (fun i wr => ∃ (j : Nat), j ≤ l.length ∧ i = .int .i64 (j : Int) ∧ Below w.heap.size w wr ∧ (l.length = 0 ∨ ∃ b G X, a1 = some ⟨b, 0, none⟩ ∧ OlSt 90 5 b w wr (l.map dCg) fs G X j))
    (fun i _ => ((l.length : Int) - intOf i).toNat)
  case atStart => exact ⟨0, by omega, rfl, H1.out⟩
  case round =>
    obtain ⟨j, hj, rfl, hB, hS⟩ := hrel
    have HS := hid (And.intro hB hS)
    clear hB hS
    by_cases hjn : j = l.length
    · have hj1 : ¬ ((j : Int) < (l.length : Int)) := by omega
      have HJ := hid hjn
      clear hj hjn
      go_wp2
      go_ret
      have hfin : Reads (fun k => w.heap.size ≤ k) wr (.slice a1 l.length c1) (.l 5 fs) := by
        rcases HS.out.2 with h0 | ⟨b, G, X, rfl, hS⟩
        · obtain rfl := List.eq_nil_of_length_eq_zero h0
          have hf0 : fs = [] := HF.out
          rw [hf0]
          exact .nil _ _ _
        · have h2 := hS
          rw [HJ.out, show l.length = (l.map dCg).length by simp] at h2
          have h3 := h2.all (by rw [HF.out]; simp) HL.out.2.1 c1
          rw [List.length_map] at h3
          exact h3
      first | exact ⟨a1, c1, rfl, hfin, HS.out.1⟩ | exact ⟨a1, ⟨c1, rfl⟩, hfin, HS.out.1⟩ | exact ⟨_, _, rfl, hfin, HS.out.1⟩
    · have hj1 : (j : Int) < (l.length : Int) := by omega
      have hj0 : (0 : Int) ≤ (j : Int) := Int.natCast_nonneg _
      have hjw : IntKind.i64.wrap ((j : Int) + 1) = (j : Int) + 1 := wrap_l3 (by have := HL.out.2.2; omega) (by have := HL.out.2.2; omega)
      obtain ⟨c, hc⟩ : ∃ c, l[j]? = some c := ⟨_, List.getElem?_eq_getElem (by omega)⟩
      obtain ⟨hB, hS⟩ := HS.out
      obtain ⟨b, G, X, rfl, hT⟩ := hS.resolve_left (by omega)
      clear hS
      have hS := hT
      clear hT
      obtain ⟨x, hx, hR⟩ := hS.rest j (dCg c) (Nat.le_refl _) (by rw [List.getElem?_map, hc]; rfl)
      obtain ⟨v, rfl, hr0⟩ := cellsChange hR
      have HR := hid hr0
      have H2 : Hid (OlSt 90 5 b w wr (l.map dCg) fs G X j ∧ G[j]? = some (cgC c v)) := hid ⟨hS, hx⟩
      have HJ := hid (And.intro hj (And.intro hjn hc))
      have hlen : j * 5 + 5 ≤ (G.flatten ++ X).length := by
        have h1 := jn_len hS.wid
        have h2 := hS.len
        rw [List.length_map] at h2
        rw [List.length_append, h1, h2]
        omega
      have HLn := hid hlen
      clear hB hS hR hx hj hjn hc hlen hr0
      go_wp2_with (first
        | (have := H3; refine wl_store_blk rfl 90 _ _ rfl b (j * 5) rfl _ rfl (G.flatten ++ X) 90 H3.out.1.blk (by exact HLn.out) (by kernel_rfl) (by have h9 := H3.out.2.2.cell1; revert h9; cases v' <;> simp [Value.oneCell']) ?_; go_must (intro w3 Hz; have H4 := Hz; clear Hz))
        | (go_at_call 60; go_must (refine (nownChange_any c (HL.out.1 c (List.mem_of_getElem? HJ.out.2.2)) v _ HR.out).mono ?_; rintro e w2 ⟨v', rfl, hr, hb⟩; have H3 : Hid (OlSt 90 5 b w w2 (l.map dCg) fs G X j ∧ Below wr.heap.size wr w2 ∧ Reads (fun k => wr.heap.size ≤ k) w2 v' (dCts (c.2.2.1.map nCt))) := hid ⟨H2.out.1.keep hb, hb, hr⟩; clear hb hr))
        | (refine wl_ldat rfl 90 _ rfl b (j * 5) rfl [.int .i64 c.1, .int .i64 c.2.1, v, .int .i64 c.2.2.2.1, .string c.2.2.2.2] (fun q u hu => H2.out.1.at H2.out.2 q u hu) _ Tryz.underlying90 rfl (by kernel_rfl) (.agg #[.int .i64 c.1, .int .i64 c.2.1, v, .int .i64 c.2.2.2.1, .string c.2.2.2.2]) rfl ?_))
      go_roundw
      case rel =>
        have hbb := lt_of_blk H2.out.1.blk
        have hsw := H2.out.1.bel.size
        have hj2 := HJ.out
        refine ⟨j + 1, by omega, by simp, H4.out.2.below H3.out.1.bel H3.out.1.low, .inr ⟨b, _, X, rfl, H3.out.1.put [.int .i64 c.1, .int .i64 c.2.1, v', .int .i64 c.2.2.2.1, .string c.2.2.2.2] (dCg (nCg c)) (by rw [List.length_map]; omega) (by rw [HF.out]; simp [hj2.2.2]) rfl ?_ H4.out.2 H4.out.1⟩⟩
        exact rowdChange (c := (nCg c)) (H3.out.2.2.mono (fun k _ hk => ⟨Nat.le_trans hsw hk, by have hk : wr.heap.size ≤ k := hk; omega⟩))
      case measure => have := HJ.out; simp [intOf]; omega
set_option maxRecDepth 100000 in
set_option maxHeartbeats 3200000 in
theorem nownLink_any {F : Nat → Prop} (c : Ln) (hc : lnS c) (v v2 : Value) (w : World) (hv : Reads F w v (dInts c.1.2)) (hv2 : Reads F w v2 (dPairs c.2)) :
    Calls Tryz.prog 62 #[.agg #[.int .i64 c.1.1, v, v2]] w fun e w' => ∃ v' v2', e = .returned (.agg #[.int .i64 c.1.1, v', v2']) ∧ Reads (fun k => w.heap.size ≤ k) w' v' (dInts c.1.2) ∧ Reads (fun k => w.heap.size ≤ k) w' v2' (dPairs c.2) ∧ Below w.heap.size w w' := by
  obtain ⟨a, k, rfl, _, _⟩ := reads_ints hv
  obtain ⟨a2, k2, rfl, _, _⟩ := reads_pairs hv2
  obtain ⟨wa, ha, hb, hx, hz⟩ := two_newL [.int .i64 c.1.1, .slice a c.1.2.length k, .slice a2 c.2.length k2] [.int .i64 0, .slice none 0 0, .slice none 0 0] 96 96 w
  have HT := hid hc
  have HV := hid (fun (u : World) (hu : Below w.heap.size w u) => (hv).under hu (Nat.le_refl _))
  have HV2 := hid (fun (u : World) (hu : Below w.heap.size w u) => (hv2).under hu (Nat.le_refl _))
  have HA := hid ha
  have S0 : Hid (Below w.heap.size w wa ∧ BxAt wa w.heap.size [.int .i64 c.1.1, .slice a c.1.2.length k, .slice a2 c.2.length k2] 96 ∧ BxAt wa (w.heap.size + 1) [.int .i64 0, .slice none 0 0, .slice none 0 0] 96) := hid ⟨hb, hx, hz⟩
  clear ha hb hx hz hc hv hv2
  have z1 := S0.out.2.1.cell 1 _ rfl
  go_enter Tryz.func62, Tryz.ntmps62
  go_upto_region 1 with fail
  rw [HA.out]
  go_wp2_with (first
    | (have := S2; refine wl_store_blk rfl 96 _ _ rfl (w.heap.size + 1) 0 rfl _ rfl [.int .i64 0, .slice none 0 0, .slice none 0 0] 96 S2.out.2.2.1 (by simp) (by kernel_rfl) (by simp [Value.oneCell']) ?_; go_must (intro wz Hz; have SZ : Hid (BxAt wz (w.heap.size + 1) [.int .i64 c.1.1, .slice a3 (c.1.2).length c3, .slice a4 (c.2).length c4] 96 ∧ One (w.heap.size + 1) w2s wz) := hid Hz.out; clear Hz))
    | (have := S2; refine wl_loadB rfl 96 _ rfl w.heap.size 0 rfl [.int .i64 c.1.1, .slice a3 (c.1.2).length c3, .slice a4 (c.2).length c4] 96 S2.out.2.1 _ Tryz.underlying96 rfl (by kernel_rfl) (.agg #[.int .i64 c.1.1, .slice a3 (c.1.2).length c3, .slice a4 (c.2).length c4]) rfl rfl ?_)
    | (have := C2; refine wl_stone rfl 44 _ _ rfl w.heap.size 2 rfl (.slice a4 (c.2).length c4) rfl rfl rfl [.int .i64 c.1.1, .slice a3 (c.1.2).length c3, .slice a2 c.2.length k2] 96 C2.out.2.1 (by simp) (by kernel_rfl) ?_; go_must (intro w2s Hz; have S2 : Hid (Below w.heap.size w w2s ∧ BxAt w2s w.heap.size [.int .i64 c.1.1, .slice a3 (c.1.2).length c3, .slice a4 (c.2).length c4] 96 ∧ BxAt w2s (w.heap.size + 1) [.int .i64 0, .slice none 0 0, .slice none 0 0] 96 ∧ Reads (fun k => w.heap.size + 2 ≤ k) w2s (.slice a3 (c.1.2).length c3) (dInts (c.1.2)) ∧ Reads (fun k => w.heap.size + 2 ≤ k) w2s (.slice a4 (c.2).length c4) (dPairs (c.2))) := hid ⟨Hz.out.2.below C2.out.1 (Nat.le_refl _), Hz.out.1, (Hz.out.2.block _ (by omega)).trans C2.out.2.2.1, (C2.out.2.2.2.1).keep (Nat.le_of_eq Hz.out.2.size.symm) (fun k _ hk => Hz.out.2.block k (by have hk : w.heap.size + 2 ≤ k := hk; omega)), (C2.out.2.2.2.2).keep (Nat.le_of_eq Hz.out.2.size.symm) (fun k _ hk => Hz.out.2.block k (by have hk : w.heap.size + 2 ≤ k := hk; omega))⟩; clear Hz))
    | (have := S1; go_at_call 58; go_must (refine (nownSigs_any (c.2) a2 k2 HT.out.2 _ (HV2.out _ S1.out.1)).mono ?_; rintro e w2 ⟨a4, c4, rfl, hr, hb⟩; have hB := S1.out.1; have C2 : Hid (Below w.heap.size w w2 ∧ BxAt w2 w.heap.size [.int .i64 c.1.1, .slice a3 (c.1.2).length c3, .slice a2 c.2.length k2] 96 ∧ BxAt w2 (w.heap.size + 1) [.int .i64 0, .slice none 0 0, .slice none 0 0] 96 ∧ Reads (fun k => w.heap.size + 2 ≤ k) w2 (.slice a3 (c.1.2).length c3) (dInts (c.1.2)) ∧ Reads (fun k => w.heap.size + 2 ≤ k) w2 (.slice a4 (c.2).length c4) (dPairs (c.2))) := hid ⟨hB.trans (hb.mono hB.size), S1.out.2.1.keep hb, S1.out.2.2.1.keep hb, (S1.out.2.2.2).under hb (Nat.le_refl _), hr.mono (fun k _ hk => by have h9 := lt_of_blk S1.out.2.2.1; have hk : _ ≤ k := hk; show w.heap.size + 2 ≤ k; omega)⟩; clear hb hB; clear hr))
    | (have := C1; refine wl_stone rfl 22 _ _ rfl w.heap.size 1 rfl (.slice a3 (c.1.2).length c3) rfl rfl rfl [.int .i64 c.1.1, .slice a c.1.2.length k, .slice a2 c.2.length k2] 96 C1.out.2.1 (by simp) (by kernel_rfl) ?_; go_must (intro w1s Hz; have S1 : Hid (Below w.heap.size w w1s ∧ BxAt w1s w.heap.size [.int .i64 c.1.1, .slice a3 (c.1.2).length c3, .slice a2 c.2.length k2] 96 ∧ BxAt w1s (w.heap.size + 1) [.int .i64 0, .slice none 0 0, .slice none 0 0] 96 ∧ Reads (fun k => w.heap.size + 2 ≤ k) w1s (.slice a3 (c.1.2).length c3) (dInts (c.1.2))) := hid ⟨Hz.out.2.below C1.out.1 (Nat.le_refl _), Hz.out.1, (Hz.out.2.block _ (by omega)).trans C1.out.2.2.1, (C1.out.2.2.2).keep (Nat.le_of_eq Hz.out.2.size.symm) (fun k _ hk => Hz.out.2.block k (by have hk : w.heap.size + 2 ≤ k := hk; omega))⟩; clear Hz; have z2 := S1.out.2.1.cell 2 _ rfl))
    | (have := S0; go_at_call 30; go_must (refine (cloneInts_any a _ k (c.1.2) rfl HT.out.1 _ (by obtain ⟨a9, k9, e9, i9, _⟩ := reads_ints (HV.out _ S0.out.1); cases e9; exact i9)).mono ?_; rintro e w1 ⟨a3, c3, rfl, hn, hb⟩; have hB := S0.out.1; have C1 : Hid (Below w.heap.size w w1 ∧ BxAt w1 w.heap.size [.int .i64 c.1.1, .slice a c.1.2.length k, .slice a2 c.2.length k2] 96 ∧ BxAt w1 (w.heap.size + 1) [.int .i64 0, .slice none 0 0, .slice none 0 0] 96 ∧ Reads (fun k => w.heap.size + 2 ≤ k) w1 (.slice a3 (c.1.2).length c3) (dInts (c.1.2))) := hid ⟨hB.trans (hb.mono hB.size), S0.out.2.1.keep hb, S0.out.2.2.keep hb, ints_reads hn.ints (fun x hx _ => by have h9 := lt_of_blk S0.out.2.2; have h8 := (hn.far x hx).1; show w.heap.size + 2 ≤ x.block; omega)⟩; clear hb hB; clear hn)))
  refine ret_cell1 (s := 2) (ad := ⟨w.heap.size + 1, 0, none⟩) rfl rfl (load_whole SZ.out.1 _ Tryz.underlying96 rfl (by kernel_rfl)) rfl ?_
  have hBz : Below w.heap.size w wz := SZ.out.2.below S2.out.1 (by omega)
  have hE0 := (S2.out.2.2.2.1).keep (Nat.le_of_eq SZ.out.2.size.symm) (fun k _ hk => SZ.out.2.block k (by have hk : w.heap.size + 2 ≤ k := hk; omega))
  have hE1 := (S2.out.2.2.2.2).keep (Nat.le_of_eq SZ.out.2.size.symm) (fun k _ hk => SZ.out.2.block k (by have hk : w.heap.size + 2 ≤ k := hk; omega))
  exact ⟨_, _, rfl, hE0.mono (fun k _ hk => by have hk : w.heap.size + 2 ≤ k := hk; show w.heap.size ≤ k; omega), hE1.mono (fun k _ hk => by have hk : w.heap.size + 2 ≤ k := hk; show w.heap.size ≤ k; omega), hBz⟩
set_option maxRecDepth 100000 in
set_option maxHeartbeats 3200000 in
theorem nlistLink_any {F : Nat → Prop} (l : List Ln) (a : Option Addr) (cap : Nat) (hm : l.length * 56 ≤ 140737488355328) (hl : ∀ c, c ∈ l → lnS c) (w : World) (hI : Reads F w (.slice a l.length cap) (.l 3 (l.map dLn))) :
    Calls Tryz.prog 61 #[.slice a l.length cap, .func (.func 62) #[] #[]] w fun e w' => ∃ a1 c1, e = .returned (.slice a1 l.length c1) ∧ Reads (fun k => w.heap.size ≤ k) w' (.slice a1 l.length c1) (.l 3 (l.map dLn)) ∧ Below w.heap.size w w' := by
  have hwd : ∀ e, e ∈ l.map dLn → e.length = 3 := fun e he => by
    obtain ⟨c, _, rfl⟩ := List.mem_map.1 he
    rfl
  have hwn : ∀ e, e ∈ l.map dLn → e.length = 3 := fun e he => by
    obtain ⟨c, _, rfl⟩ := List.mem_map.1 he
    rfl
  have HC := hid (ncloneLink_any (l.map dLn) (l.map dLn) a l.length cap hwd (by rw [List.length_map]; exact hm) w hI)
  have hll : (l.length : Int) ≤ 140737488355328 := by omega
  have HL := hid (And.intro hl (And.intro hwn hll))
  clear hm hl hI hwd hwn hll
  go_enter Tryz.func61, Tryz.ntmps61
  go_wp2_with (go_at_call 99; go_must (refine (HC.out).mono ?_; rintro e w1 ⟨a1, c1, rfl, hb, hS⟩; have H1 := hid (And.intro hb hS); clear hb hS))
  go_loopw [10] (fun i wr => ∃ (j : Nat), j ≤ l.length ∧ i = .int .i64 (j : Int) ∧ Below w.heap.size w wr ∧ (l.length = 0 ∨ ∃ b G X, a1 = some ⟨b, 0, none⟩ ∧ OlSt 96 3 b w wr (l.map dLn) (l.map dLn) G X j))
    (fun i _ => ((l.length : Int) - intOf i).toNat)
  case atStart => exact ⟨0, by omega, rfl, H1.out⟩
  case round =>
    obtain ⟨j, hj, rfl, hB, hS⟩ := hrel
    have HS := hid (And.intro hB hS)
    clear hB hS
    by_cases hjn : j = l.length
    · have hj1 : ¬ ((j : Int) < (l.length : Int)) := by omega
      have HJ := hid hjn
      clear hj hjn
      go_wp2
      go_ret
      have hfin : Reads (fun k => w.heap.size ≤ k) wr (.slice a1 l.length c1) (.l 3 (l.map dLn)) := by
        rcases HS.out.2 with h0 | ⟨b, G, X, rfl, hS⟩
        · obtain rfl := List.eq_nil_of_length_eq_zero h0
          exact .nil _ _ _
        · have h2 := hS
          rw [HJ.out, show l.length = (l.map dLn).length by simp] at h2
          have h3 := h2.all (by simp) HL.out.2.1 c1
          rw [List.length_map] at h3
          exact h3
      first | exact ⟨a1, c1, rfl, hfin, HS.out.1⟩ | exact ⟨a1, ⟨c1, rfl⟩, hfin, HS.out.1⟩ | exact ⟨_, _, rfl, hfin, HS.out.1⟩
    · have hj1 : (j : Int) < (l.length : Int) := by omega
      have hj0 : (0 : Int) ≤ (j : Int) := Int.natCast_nonneg _
      have hjw : IntKind.i64.wrap ((j : Int) + 1) = (j : Int) + 1 := wrap_l3 (by have := HL.out.2.2; omega) (by have := HL.out.2.2; omega)
      obtain ⟨c, hc⟩ : ∃ c, l[j]? = some c := ⟨_, List.getElem?_eq_getElem (by omega)⟩
      obtain ⟨hB, hS⟩ := HS.out
      obtain ⟨b, G, X, rfl, hT⟩ := hS.resolve_left (by omega)
      clear hS
      have hS := hT
      clear hT
      obtain ⟨x, hx, hR⟩ := hS.rest j (dLn c) (Nat.le_refl _) (by rw [List.getElem?_map, hc]; rfl)
      obtain ⟨v, v2, rfl, hr0, hr1⟩ := cellsLink hR
      have HR := hid (And.intro hr0 hr1)
      have H2 : Hid (OlSt 96 3 b w wr (l.map dLn) (l.map dLn) G X j ∧ G[j]? = some (linkC c v v2)) := hid ⟨hS, hx⟩
      have HJ := hid (And.intro hj (And.intro hjn hc))
      have hlen : j * 3 + 3 ≤ (G.flatten ++ X).length := by
        have h1 := jn_len hS.wid
        have h2 := hS.len
        rw [List.length_map] at h2
        rw [List.length_append, h1, h2]
        omega
      have HLn := hid hlen
      clear hB hS hR hx hj hjn hc hlen hr0 hr1
      go_wp2_with (first
        | (have := H3; refine wl_store_blk rfl 96 _ _ rfl b (j * 3) rfl _ rfl (G.flatten ++ X) 96 H3.out.1.blk (by exact HLn.out) (by kernel_rfl) (by have h9 := H3.out.2.2.1.cell1; have h8 := H3.out.2.2.2.cell1; revert h9 h8; cases v' <;> cases v2' <;> simp [Value.oneCell']) ?_; go_must (intro w3 Hz; have H4 := Hz; clear Hz))
        | (go_at_call 62; go_must (refine (nownLink_any c (HL.out.1 c (List.mem_of_getElem? HJ.out.2.2)) v v2 _ HR.out.1 HR.out.2).mono ?_; rintro e w2 ⟨v', v2', rfl, hr, hr2, hb⟩; have H3 : Hid (OlSt 96 3 b w w2 (l.map dLn) (l.map dLn) G X j ∧ Below wr.heap.size wr w2 ∧ Reads (fun k => wr.heap.size ≤ k) w2 v' (dInts c.1.2) ∧ Reads (fun k => wr.heap.size ≤ k) w2 v2' (dPairs c.2)) := hid ⟨H2.out.1.keep hb, hb, hr, hr2⟩; clear hb hr hr2))
        | (refine wl_ldat rfl 96 _ rfl b (j * 3) rfl [.int .i64 c.1.1, v, v2] (fun q u hu => H2.out.1.at H2.out.2 q u hu) _ Tryz.underlying96 rfl (by kernel_rfl) (.agg #[.int .i64 c.1.1, v, v2]) rfl ?_))
      go_roundw
      case rel =>
        have hbb := lt_of_blk H2.out.1.blk
        have hsw := H2.out.1.bel.size
        have hj2 := HJ.out
        refine ⟨j + 1, by omega, by simp, H4.out.2.below H3.out.1.bel H3.out.1.low, .inr ⟨b, _, X, rfl, H3.out.1.put [.int .i64 c.1.1, v', v2'] (dLn c) (by rw [List.length_map]; omega) (by simp [hj2.2.2]) rfl ?_ H4.out.2 H4.out.1⟩⟩
        exact rowdLink (c := c) (H3.out.2.2.1.mono (fun k _ hk => ⟨Nat.le_trans hsw hk, by have hk : wr.heap.size ≤ k := hk; omega⟩)) (H3.out.2.2.2.mono (fun k _ hk => ⟨Nat.le_trans hsw hk, by have hk : wr.heap.size ≤ k := hk; omega⟩))
      case measure => have := HJ.out; simp [intOf]; omega
end Go.Proofs.YthjgnfeadagmeaaGreat
