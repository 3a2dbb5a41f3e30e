/- Texts laid together: OtF OtG GnI OtR OtS OtT GrB GrD GrE CoA CoB. -/
import Derived.Test.YtchlmcpnjpllnaaX06
import Derived.Deep.RegionLaw
/- How far each chain is walked: the closures; and all chains walked. -/
namespace Go.Proofs.Ytchlmcpnjpllnaa
open Go.RowKit

theorem public1_any (j : Nat) (u : World) : Calls Try.prog 106 #[.int .i64 (j : Int)] u fun e w' => e = .returned (.int .i64 15) ∧ w' = u := by
  go_enter Try.func106, Try.ntmps106
  go_wp2
  go_ret
  exact ⟨rfl, rfl⟩
set_option maxRecDepth 100000 in
theorem sign1_any (b g cap j d : Nat) (hj : (j : Int) < 35) (u : World) (hb : u.cell? ⟨b, 0, none⟩ = some (.slice (some ⟨g, 0, none⟩) 35 cap)) (hd : u.cell? ⟨g, j, none⟩ = some (.int .i64 (d : Int))) :
    Calls Try.prog 81 #[.int .i64 (j : Int), .pointer (some ⟨b, 0, none⟩)] u fun e w' => e = .returned (.int .i64 (d : Int)) ∧ w' = u := by
  have hj0 : (0 : Int) ≤ (j : Int) := Int.natCast_nonneg _
  go_enter Try.func81, Try.ntmps81
  go_wp2
  go_ret
  exact ⟨rfl, rfl⟩
set_option maxRecDepth 100000 in
theorem recover1_any (b g cap j d : Nat) (hj : (j : Int) < 35) (h15 : (d : Int) ≤ 15) (u : World) (hb : u.cell? ⟨b, 0, none⟩ = some (.slice (some ⟨g, 0, none⟩) 35 cap)) (hd : u.cell? ⟨g, j, none⟩ = some (.int .i64 (d : Int))) :
    Calls Try.prog 105 #[.int .i64 (j : Int), .pointer (some ⟨b, 0, none⟩)] u fun e w' => e = .returned (.int .i64 ((15 - d : Nat) : Int)) ∧ w' = u := by
  have hj0 : (0 : Int) ≤ (j : Int) := Int.natCast_nonneg _
  have hd0 : (0 : Int) ≤ (d : Int) := Int.natCast_nonneg _
  have HE : Hid (((15 - d : Nat) : Int) = 15 - (d : Int)) := hid (by omega)
  rw [HE.out]
  go_enter Try.func105, Try.ntmps105
  go_wp2
  go_ret
  exact ⟨rfl, rfl⟩
theorem ch_bound (k : Nat → Nat) (p : Nat → ByteArray) (j : Nat) (hj : j ≤ 35) (hp : ∀ i, i < 35 → (p i).size = 16) : (chB k p j).length ≤ 560 := by
  rw [chB_len k p j (fun i hi => hp i (by omega))]
  omega

set_option maxRecDepth 100000 in
set_option maxHeartbeats 1600000 in
theorem walked_public (L : List ByteArray) (p : Nat → ByteArray) (k : Nat → Nat) (g : Nat) (w : World) (hL : L.length = 35) (hp : ∀ j : Nat, j < 35 → L[j]? = some (p j)) (h16 : ∀ j : Nat, j < 35 → (p j).size = 16) (hk : ∀ j : Nat, j < 35 → k j ≤ 15) (hS : StrsIn w (some ⟨g, 0, none⟩) L)
    (hF : ∀ j : Nat, j < 35 → ∀ u : World, Below w.heap.size w u → Calls Try.prog 106 #[.int .i64 (j : Int)] u fun e w' => e = .returned (.int .i64 (k j : Int)) ∧ w' = u) :
    Calls Try.prog 79 #[.slice (some ⟨g, 0, none⟩) 35 35, .func (.func 106) #[] #[]] w fun e w' => e = .returned (.string ⟨(chB k p 35).toArray⟩) ∧ Below w.heap.size w w' := by
  have HP := hid (And.intro hL (And.intro hp (And.intro h16 (And.intro hk (And.intro hS hF)))))
  clear hL hp h16 hk hS hF
  go_enter Try.func79, Try.ntmps79
  go_wp2
  go_loopw [10] (fun i wr => ∃ j : Nat, j ≤ 35 ∧ i = .int .i64 (j : Int) ∧ Bld w.heap.size w wr w.heap.size (chB k p j))
    (fun i _ => (35 - intOf i).toNat)
  case atStart => exact ⟨0, by omega, rfl, Bld.new w _ rfl⟩
  case round =>
    obtain ⟨j, hj, rfl, hR⟩ := hrel
    have HR := hid hR
    clear hR
    by_cases hjn : j = 35
    · have hj1 : ¬ ((j : Int) < 35) := by omega
      subst hjn
      clear hj
      go_wp2_with (go_at_call 84; refine (bstring_any _ _ _ _ _ (by exact HR.out)).mono ?_; rintro e w1 ⟨rfl, hb1⟩; have H1 := hid hb1; clear hb1)
      go_ret
      exact ⟨rfl, H1.out⟩
    · have hj1 : (j : Int) < 35 := by omega
      have hj0 : (0 : Int) ≤ (j : Int) := Int.natCast_nonneg _
      have hj35 : j < 35 := by omega
      obtain ⟨g', off, eg, hg, hcell⟩ := HP.out.2.2.2.2.1.at j _ (HP.out.2.1 j hj35)
      obtain ⟨rfl, rfl⟩ : g = g' ∧ 0 = off := by simp at eg; exact eg
      rw [Nat.zero_add] at hcell
      have cz : wr.cell? ⟨g, j, none⟩ = some (.string (p j)) := (HR.out.bel.cell (p := ⟨g, j, none⟩) hg).trans hcell
      have HF : Hid (∀ u : World, Below w.heap.size w u → Calls Try.prog 106 #[.int .i64 (j : Int)] u fun e w' => e = .returned (.int .i64 (k j : Int)) ∧ w' = u) := hid (HP.out.2.2.2.2.2 j hj35)
      have HT : Hid (∀ u : World, Calls Try.prog 101 #[.string (p j), .int .i64 (k j : Int)] u fun e w' => e = .returned (.string (stepN (k j) (p j))) ∧ Below u.heap.size u w') := hid (fun u => by
        have := ostep_le (p j) (by rw [HP.out.2.2.1 j hj35]; decide) (k j : Int) u
        rwa [clampN_of _ (HP.out.2.2.2.1 j hj35)] at this)
      have hlen : (chB k p j).length + (stepN (k j) (p j)).size ≤ 140737488355328 := by
        have := ch_bound k p j hj HP.out.2.2.1
        rw [stepN_size _ _ (HP.out.2.2.1 j hj35)]
        omega
      have HN := hid (And.intro hlen (chB_succ k p j))
      obtain ⟨y, ey⟩ : ∃ y, y = stepN (k j) (p j) := ⟨_, rfl⟩
      obtain ⟨x, ex⟩ : ∃ x, x = p j := ⟨_, rfl⟩
      obtain ⟨n, en⟩ : ∃ n, n = k j := ⟨_, rfl⟩
      rw [← ey] at HT HN
      rw [← ex] at HT cz
      rw [← en] at HT HF
      have HJ := hid (And.intro hj hjn)
      clear hlen eg hg hcell hj hjn hj35 ey ex en
      go_wp2_with (first
        | (go_at_call 106; refine (HF.out _ HR.out.bel).mono ?_; rintro e wx ⟨rfl, rfl⟩)
        | (go_at_call 101; refine (HT.out _).mono ?_; rintro e w2 ⟨rfl, hb2⟩; have H2 := hid (HR.out.keep hb2); clear hb2)
        | (go_at_call 82; refine (bwrite_any _ _ _ _ _ _ (by exact H2.out) (by exact HN.out.1)).mono ?_; rintro e w3 ⟨⟨n3, rfl⟩, hb3⟩; have H3 := hid hb3; clear hb3))
      go_roundw
      case rel => exact ⟨j + 1, by have := HJ.out; omega, by go_num, by rw [HN.out.2]; exact H3.out⟩
      case measure => simp [intOf]; omega

set_option maxRecDepth 100000 in
set_option maxHeartbeats 1600000 in
theorem walked_sign (b : Nat) (L : List ByteArray) (p : Nat → ByteArray) (k : Nat → Nat) (g : Nat) (w : World) (hL : L.length = 35) (hp : ∀ j : Nat, j < 35 → L[j]? = some (p j)) (h16 : ∀ j : Nat, j < 35 → (p j).size = 16) (hk : ∀ j : Nat, j < 35 → k j ≤ 15) (hS : StrsIn w (some ⟨g, 0, none⟩) L)
    (hF : ∀ j : Nat, j < 35 → ∀ u : World, Below w.heap.size w u → Calls Try.prog 81 #[.int .i64 (j : Int), .pointer (some ⟨b, 0, none⟩)] u fun e w' => e = .returned (.int .i64 (k j : Int)) ∧ w' = u) :
    Calls Try.prog 79 #[.slice (some ⟨g, 0, none⟩) 35 35, .func (.func 81) #[] #[.pointer (some ⟨b, 0, none⟩)]] w fun e w' => e = .returned (.string ⟨(chB k p 35).toArray⟩) ∧ Below w.heap.size w w' := by
  have HP := hid (And.intro hL (And.intro hp (And.intro h16 (And.intro hk (And.intro hS hF)))))
  clear hL hp h16 hk hS hF
  go_enter Try.func79, Try.ntmps79
  go_wp2
  go_loopw [10] (fun i wr => ∃ j : Nat, j ≤ 35 ∧ i = .int .i64 (j : Int) ∧ Bld w.heap.size w wr w.heap.size (chB k p j))
    (fun i _ => (35 - intOf i).toNat)
  case atStart => exact ⟨0, by omega, rfl, Bld.new w _ rfl⟩
  case round =>
    obtain ⟨j, hj, rfl, hR⟩ := hrel
    have HR := hid hR
    clear hR
    by_cases hjn : j = 35
    · have hj1 : ¬ ((j : Int) < 35) := by omega
      subst hjn
      clear hj
      go_wp2_with (go_at_call 84; refine (bstring_any _ _ _ _ _ (by exact HR.out)).mono ?_; rintro e w1 ⟨rfl, hb1⟩; have H1 := hid hb1; clear hb1)
      go_ret
      exact ⟨rfl, H1.out⟩
    · have hj1 : (j : Int) < 35 := by omega
      have hj0 : (0 : Int) ≤ (j : Int) := Int.natCast_nonneg _
      have hj35 : j < 35 := by omega
      obtain ⟨g', off, eg, hg, hcell⟩ := HP.out.2.2.2.2.1.at j _ (HP.out.2.1 j hj35)
      obtain ⟨rfl, rfl⟩ : g = g' ∧ 0 = off := by simp at eg; exact eg
      rw [Nat.zero_add] at hcell
      have cz : wr.cell? ⟨g, j, none⟩ = some (.string (p j)) := (HR.out.bel.cell (p := ⟨g, j, none⟩) hg).trans hcell
      have HF : Hid (∀ u : World, Below w.heap.size w u → Calls Try.prog 81 #[.int .i64 (j : Int), .pointer (some ⟨b, 0, none⟩)] u fun e w' => e = .returned (.int .i64 (k j : Int)) ∧ w' = u) := hid (HP.out.2.2.2.2.2 j hj35)
      have HT : Hid (∀ u : World, Calls Try.prog 101 #[.string (p j), .int .i64 (k j : Int)] u fun e w' => e = .returned (.string (stepN (k j) (p j))) ∧ Below u.heap.size u w') := hid (fun u => by
        have := ostep_le (p j) (by rw [HP.out.2.2.1 j hj35]; decide) (k j : Int) u
        rwa [clampN_of _ (HP.out.2.2.2.1 j hj35)] at this)
      have hlen : (chB k p j).length + (stepN (k j) (p j)).size ≤ 140737488355328 := by
        have := ch_bound k p j hj HP.out.2.2.1
        rw [stepN_size _ _ (HP.out.2.2.1 j hj35)]
        omega
      have HN := hid (And.intro hlen (chB_succ k p j))
      obtain ⟨y, ey⟩ : ∃ y, y = stepN (k j) (p j) := ⟨_, rfl⟩
      obtain ⟨x, ex⟩ : ∃ x, x = p j := ⟨_, rfl⟩
      obtain ⟨n, en⟩ : ∃ n, n = k j := ⟨_, rfl⟩
      rw [← ey] at HT HN
      rw [← ex] at HT cz
      rw [← en] at HT HF
      have HJ := hid (And.intro hj hjn)
      clear hlen eg hg hcell hj hjn hj35 ey ex en
      go_wp2_with (first
        | (go_at_call 81; refine (HF.out _ HR.out.bel).mono ?_; rintro e wx ⟨rfl, rfl⟩)
        | (go_at_call 101; refine (HT.out _).mono ?_; rintro e w2 ⟨rfl, hb2⟩; have H2 := hid (HR.out.keep hb2); clear hb2)
        | (go_at_call 82; refine (bwrite_any _ _ _ _ _ _ (by exact H2.out) (by exact HN.out.1)).mono ?_; rintro e w3 ⟨⟨n3, rfl⟩, hb3⟩; have H3 := hid hb3; clear hb3))
      go_roundw
      case rel => exact ⟨j + 1, by have := HJ.out; omega, by go_num, by rw [HN.out.2]; exact H3.out⟩
      case measure => simp [intOf]; omega

set_option maxRecDepth 100000 in
set_option maxHeartbeats 1600000 in
theorem walked_recover (b : Nat) (L : List ByteArray) (p : Nat → ByteArray) (k : Nat → Nat) (g : Nat) (w : World) (hL : L.length = 35) (hp : ∀ j : Nat, j < 35 → L[j]? = some (p j)) (h16 : ∀ j : Nat, j < 35 → (p j).size = 16) (hk : ∀ j : Nat, j < 35 → k j ≤ 15) (hS : StrsIn w (some ⟨g, 0, none⟩) L)
    (hF : ∀ j : Nat, j < 35 → ∀ u : World, Below w.heap.size w u → Calls Try.prog 105 #[.int .i64 (j : Int), .pointer (some ⟨b, 0, none⟩)] u fun e w' => e = .returned (.int .i64 (k j : Int)) ∧ w' = u) :
    Calls Try.prog 79 #[.slice (some ⟨g, 0, none⟩) 35 35, .func (.func 105) #[] #[.pointer (some ⟨b, 0, none⟩)]] w fun e w' => e = .returned (.string ⟨(chB k p 35).toArray⟩) ∧ Below w.heap.size w w' := by
  have HP := hid (And.intro hL (And.intro hp (And.intro h16 (And.intro hk (And.intro hS hF)))))
  clear hL hp h16 hk hS hF
  go_enter Try.func79, Try.ntmps79
  go_wp2
  go_loopw [10] (fun i wr => ∃ j : Nat, j ≤ 35 ∧ i = .int .i64 (j : Int) ∧ Bld w.heap.size w wr w.heap.size (chB k p j))
    (fun i _ => (35 - intOf i).toNat)
  case atStart => exact ⟨0, by omega, rfl, Bld.new w _ rfl⟩
  case round =>
    obtain ⟨j, hj, rfl, hR⟩ := hrel
    have HR := hid hR
    clear hR
    by_cases hjn : j = 35
    · have hj1 : ¬ ((j : Int) < 35) := by omega
      subst hjn
      clear hj
      go_wp2_with (go_at_call 84; refine (bstring_any _ _ _ _ _ (by exact HR.out)).mono ?_; rintro e w1 ⟨rfl, hb1⟩; have H1 := hid hb1; clear hb1)
      go_ret
      exact ⟨rfl, H1.out⟩
    · have hj1 : (j : Int) < 35 := by omega
      have hj0 : (0 : Int) ≤ (j : Int) := Int.natCast_nonneg _
      have hj35 : j < 35 := by omega
      obtain ⟨g', off, eg, hg, hcell⟩ := HP.out.2.2.2.2.1.at j _ (HP.out.2.1 j hj35)
      obtain ⟨rfl, rfl⟩ : g = g' ∧ 0 = off := by simp at eg; exact eg
      rw [Nat.zero_add] at hcell
      have cz : wr.cell? ⟨g, j, none⟩ = some (.string (p j)) := (HR.out.bel.cell (p := ⟨g, j, none⟩) hg).trans hcell
      have HF : Hid (∀ u : World, Below w.heap.size w u → Calls Try.prog 105 #[.int .i64 (j : Int), .pointer (some ⟨b, 0, none⟩)] u fun e w' => e = .returned (.int .i64 (k j : Int)) ∧ w' = u) := hid (HP.out.2.2.2.2.2 j hj35)
      have HT : Hid (∀ u : World, Calls Try.prog 101 #[.string (p j), .int .i64 (k j : Int)] u fun e w' => e = .returned (.string (stepN (k j) (p j))) ∧ Below u.heap.size u w') := hid (fun u => by
        have := ostep_le (p j) (by rw [HP.out.2.2.1 j hj35]; decide) (k j : Int) u
        rwa [clampN_of _ (HP.out.2.2.2.1 j hj35)] at this)
      have hlen : (chB k p j).length + (stepN (k j) (p j)).size ≤ 140737488355328 := by
        have := ch_bound k p j hj HP.out.2.2.1
        rw [stepN_size _ _ (HP.out.2.2.1 j hj35)]
        omega
      have HN := hid (And.intro hlen (chB_succ k p j))
      obtain ⟨y, ey⟩ : ∃ y, y = stepN (k j) (p j) := ⟨_, rfl⟩
      obtain ⟨x, ex⟩ : ∃ x, x = p j := ⟨_, rfl⟩
      obtain ⟨n, en⟩ : ∃ n, n = k j := ⟨_, rfl⟩
      rw [← ey] at HT HN
      rw [← ex] at HT cz
      rw [← en] at HT HF
      have HJ := hid (And.intro hj hjn)
      clear hlen eg hg hcell hj hjn hj35 ey ex en
      go_wp2_with (first
        | (go_at_call 105; refine (HF.out _ HR.out.bel).mono ?_; rintro e wx ⟨rfl, rfl⟩)
        | (go_at_call 101; refine (HT.out _).mono ?_; rintro e w2 ⟨rfl, hb2⟩; have H2 := hid (HR.out.keep hb2); clear hb2)
        | (go_at_call 82; refine (bwrite_any _ _ _ _ _ _ (by exact H2.out) (by exact HN.out.1)).mono ?_; rintro e w3 ⟨⟨n3, rfl⟩, hb3⟩; have H3 := hid hb3; clear hb3))
      go_roundw
      case rel => exact ⟨j + 1, by have := HJ.out; omega, by go_num, by rw [HN.out.2]; exact H3.out⟩
      case measure => simp [intOf]; omega
end Go.Proofs.Ytchlmcpnjpllnaa

/- Public keys, signatures, and what a signature leads to. -/
namespace Go.Proofs.Ytchlmcpnjpllnaa
open Go.RowKit

/-- Is it a leaf? -/
def leafB (n : Int) : Bool := decide (0 ≤ n ∧ n < 256)
theorem leafB_yes {n : Int} (h0 : 0 ≤ n) (h1 : n < 256) : leafB n = true := decide_eq_true ⟨h0, h1⟩
theorem leafB_no {n : Int} (h : ¬ (0 ≤ n ∧ n < 256)) : leafB n = false := decide_eq_false h
def leafE (n : Int) : Int := if leafB n then 0 else 1
def pubS (seed : ByteArray) (n : Int) : ByteArray := if leafB n then ⟨(pubB seed n.toNat).toArray⟩ else ⟨#[]⟩
def signS (seed : ByteArray) (n : Int) (text : ByteArray) : ByteArray := if leafB n then ⟨(signB seed n.toNat text).toArray⟩ else ⟨#[]⟩
def sigOk (sig : ByteArray) : Bool := decide (sig.size = 560)
def recS (text sig : ByteArray) : ByteArray := if sigOk sig then ⟨(recB text sig).toArray⟩ else ⟨#[]⟩
theorem leaf_nat {n : Int} (h : leafB n = true) : ∃ k : Nat, n = (k : Int) ∧ k < 256 := by
  have := of_decide_eq_true h
  exact ⟨n.toNat, by omega, by omega⟩

theorem isLeaf_any (n : Int) (w : World) : Calls Try.prog 77 #[.int .i64 n] w fun e w' => e = .returned (.bool (leafB n)) ∧ w' = w := by
  by_cases h0 : 0 ≤ n
  · by_cases h1 : n < 256
    · rw [leafB_yes h0 h1]
      go_enter Try.func77, Try.ntmps77
      go_wp2
      go_ret
      exact ⟨rfl, rfl⟩
    · rw [leafB_no (fun h => h1 h.2)]
      go_enter Try.func77, Try.ntmps77
      go_wp2
      go_ret
      exact ⟨rfl, rfl⟩
  · rw [leafB_no (fun h => h0 h.1)]
    go_enter Try.func77, Try.ntmps77
    go_wp2
    go_ret
    exact ⟨rfl, rfl⟩
theorem isLeaf_at (n : Int) (b : Bool) (h : leafB n = b) (w : World) : Calls Try.prog 77 #[.int .i64 n] w fun e w' => e = .returned (.bool b) ∧ w' = w := by
  rw [← h]
  exact isLeaf_any n w

theorem begins_at (seed : ByteArray) (hs : seed.size ≤ 1000000) (leaf : Nat) (hl : leaf < 256) (u : World) :
    Calls Try.prog 80 #[.string seed, .int .i64 (leaf : Int)] u fun e w' => ∃ g, e = .returned (.slice (some ⟨g, 0, none⟩) 35 35) ∧ StrsIn w' (some ⟨g, 0, none⟩) (begL seed leaf) ∧ Below u.heap.size u w' :=
  (begins_le seed hs leaf hl u).mono fun _ _ h => ⟨_, h⟩
theorem pieces_at (sig : ByteArray) (hs : sig.size = 560) (u : World) :
    Calls Try.prog 104 #[.string sig] u fun e w' => ∃ g, e = .returned (.slice (some ⟨g, 0, none⟩) 35 35) ∧ StrsIn w' (some ⟨g, 0, none⟩) (pieL sig) ∧ Below u.heap.size u w' :=
  (pieces_any sig hs u).mono fun _ _ h => ⟨_, h⟩

set_option maxRecDepth 100000 in
set_option maxHeartbeats 1600000 in
theorem opublic_le (seed : ByteArray) (hs : seed.size ≤ 1000000) (n : Int) (w : World) :
    Calls Try.prog 98 #[.string seed, .int .i64 n] w fun e w' => e = .returned (.tuple #[.string (pubS seed n), .int .i64 (leafE n)]) ∧ Below w.heap.size w w' := by
  cases hb : leafB n with
  | false =>
    have HB := hid hb
    rw [show pubS seed n = ⟨#[]⟩ by unfold pubS; rw [hb]; rfl, show leafE n = 1 by unfold leafE; rw [hb]; rfl]
    clear hb hs
    go_enter Try.func98, Try.ntmps98
    go_wp2_with (go_at_call 77; refine (isLeaf_at _ _ (by exact HB.out) _).mono ?_; rintro e wx ⟨rfl, rfl⟩)
    go_ret2
    exact ⟨rfl, Below.refl _ _⟩
  | true =>
    have HB := hid hb
    obtain ⟨leaf, rfl, hl⟩ := leaf_nat hb
    obtain ⟨Y, eY⟩ : ∃ Y : ByteArray, Y = ⟨(chB (fun _ => 15) (begS seed leaf) 35).toArray⟩ := ⟨_, rfl⟩
    have hY : Y.size = 560 := by rw [eY, mk_size, chB_len _ _ _ (fun i _ => begS_size _ _ _)]
    obtain ⟨T, eT⟩ : ∃ T, T = shaS Y := ⟨_, rfl⟩
    rw [show pubS seed (leaf : Int) = T by unfold pubS; rw [hb, eT, eY, Int.toNat_natCast]; rfl, show leafE (leaf : Int) = 0 by unfold leafE; rw [hb]; rfl]
    have HG : Hid (∀ u : World, Calls Try.prog 80 #[.string seed, .int .i64 (leaf : Int)] u fun e w' => e = .returned (.slice (some ⟨u.heap.size, 0, none⟩) 35 35) ∧ StrsIn w' (some ⟨u.heap.size, 0, none⟩) (begL seed leaf) ∧ Below u.heap.size u w') := hid (begins_le seed hs leaf hl)
    have HW : Hid (∀ (u : World) (g : Nat), StrsIn u (some ⟨g, 0, none⟩) (begL seed leaf) → Calls Try.prog 79 #[.slice (some ⟨g, 0, none⟩) 35 35, .func (.func 106) #[] #[]] u fun e w' => e = .returned (.string Y) ∧ Below u.heap.size u w') := hid (fun u g hS => by
      rw [eY]
      exact walked_public (begL seed leaf) (begS seed leaf) (fun _ => 15) g u (begL_len _ _) (fun j hj => begL_get _ _ _ hj) (fun j _ => begS_size _ _ _) (fun _ _ => Nat.le_refl _) hS (fun j _ v _ => public1_any j v))
    have HS : Hid (∀ (u : World) (g : Nat), g = u.heap.size → Calls Try.prog 99 #[.slice (some ⟨g, 0, none⟩) 1 1] (u.alloc (.cells #[.string Y] 9)) fun e w' => e = .returned (.string T) ∧ Below u.heap.size u w') := hid (fun u g hg => by rw [eT]; exact sum_one Y (by omega) u g hg)
    clear eY eT hY hs hl hb
    go_enter Try.func98, Try.ntmps98
    go_wp2_with (first
      | (go_at_call 77; refine (isLeaf_at _ _ (by exact HB.out) _).mono ?_; rintro e wx ⟨rfl, rfl⟩)
      | (go_at_call 80; refine (HG.out _).mono ?_; rintro e w1 ⟨rfl, hs1, hb1⟩; have H1 := hid (And.intro hs1 hb1); clear hs1 hb1)
      | (go_at_call 79; refine (HW.out _ _ (by exact H1.out.1)).mono ?_; rintro e w2 ⟨rfl, hb2⟩; have H2 := hid (H1.out.2.trans (hb2.mono H1.out.2.size)); clear hb2)
      | (go_at_call 99; refine (HS.out _ _ (by simp)).mono ?_; rintro e w3 ⟨rfl, hb3⟩; have H3 := hid (H2.out.trans (hb3.mono H2.out.size)); clear hb3))
    go_ret2
    exact ⟨rfl, H3.out⟩

set_option maxRecDepth 100000 in
set_option maxHeartbeats 1600000 in
theorem osign_le (seed : ByteArray) (hs : seed.size ≤ 1000000) (n : Int) (t : ByteArray) (ht : t.size ≤ 1000000) (w : World) :
    Calls Try.prog 55 #[.string seed, .int .i64 n, .string t] w fun e w' => e = .returned (.tuple #[.string (signS seed n t), .int .i64 (leafE n)]) ∧ Below w.heap.size w w' := by
  cases hb : leafB n with
  | false =>
    have HB := hid hb
    rw [show signS seed n t = ⟨#[]⟩ by unfold signS; rw [hb]; rfl, show leafE n = 1 by unfold leafE; rw [hb]; rfl]
    clear hb hs ht
    go_enter Try.func55, Try.ntmps55
    go_wp2_with (go_at_call 77; refine (isLeaf_at _ _ (by exact HB.out) _).mono ?_; rintro e wx ⟨rfl, rfl⟩)
    go_ret2
    exact ⟨rfl, Below.refl _ _⟩
  | true =>
    have HB := hid hb
    obtain ⟨leaf, rfl, hl⟩ := leaf_nat hb
    obtain ⟨Y, eY⟩ : ∃ Y : ByteArray, Y = ⟨(signB seed leaf t).toArray⟩ := ⟨_, rfl⟩
    rw [show signS seed (leaf : Int) t = Y by unfold signS; rw [hb, eY, Int.toNat_natCast]; rfl, show leafE (leaf : Int) = 0 by unfold leafE; rw [hb]; rfl]
    have HD : Hid (∀ u : World, Calls Try.prog 78 #[.string t] u fun e w' => ∃ g cap, e = .returned (.slice (some ⟨g, 0, none⟩) 35 cap) ∧ u.heap.size ≤ g ∧ g < w'.heap.size ∧ IntsIn w' (some ⟨g, 0, none⟩) (nI (txtN t)) ∧ Below u.heap.size u w') := hid (odigits_le t ht)
    have HG : Hid (∀ u : World, Calls Try.prog 80 #[.string seed, .int .i64 (leaf : Int)] u fun e w' => ∃ g, e = .returned (.slice (some ⟨g, 0, none⟩) 35 35) ∧ StrsIn w' (some ⟨g, 0, none⟩) (begL seed leaf) ∧ Below u.heap.size u w') := hid (begins_at seed hs leaf hl)
    have HW : Hid (∀ (u : World) (g b gd cap : Nat), StrsIn u (some ⟨g, 0, none⟩) (begL seed leaf) → b < u.heap.size → u.cell? ⟨b, 0, none⟩ = some (.slice (some ⟨gd, 0, none⟩) 35 cap) → IntsIn u (some ⟨gd, 0, none⟩) (nI (txtN t)) → Calls Try.prog 79 #[.slice (some ⟨g, 0, none⟩) 35 35, .func (.func 81) #[] #[.pointer (some ⟨b, 0, none⟩)]] u fun e w' => e = .returned (.string Y) ∧ Below u.heap.size u w') := hid (fun u g b gd cap hS hbl hcb hI => by
      rw [eY]
      exact walked_sign b (begL seed leaf) (begS seed leaf) (fun i => (txtN t).getD i 0) g u (begL_len _ _) (fun j hj => begL_get _ _ _ hj) (fun j _ => begS_size _ _ _) (fun j _ => by have := txtN_lt t j; omega) hS
        (fun j hj v hv => sign1_any b gd cap j _ (by omega) v ((hv.cell (p := ⟨b, 0, none⟩) hbl).trans hcb) ((hv.cell (p := ⟨gd, j, none⟩) (dig_cell hI j hj).1).trans (dig_cell hI j hj).2)))
    clear eY hs ht hl hb
    go_enter Try.func55, Try.ntmps55
    go_wp2_with (first
      | (go_at_call 77; refine (isLeaf_at _ _ (by exact HB.out) _).mono ?_; rintro e wx ⟨rfl, rfl⟩)
      | (go_at_call 78; refine (HD.out _).mono ?_; rintro e w1 ⟨gd, cap, rfl, hgl, hg1, hi1, hb1⟩; have H1 := hid (And.intro hg1 (And.intro hi1 hb1)); clear hgl hg1 hi1 hb1)
      | (go_at_call 80; refine (HG.out _).mono ?_; rintro e w2 ⟨g2, rfl, hs2, hb2⟩
         have hc2 : w2.cell? ⟨w1.heap.size, 0, none⟩ = some (.slice (some ⟨gd, 0, none⟩) 35 cap) := (hb2.cell (p := ⟨w1.heap.size, 0, none⟩) (by simp)).trans (cell_at (L := [.slice (some ⟨gd, 0, none⟩) 35 cap]) (t := 114) (fr := (0, 0)) (heap_alloc_last w1 _) 0 _ rfl)
         have hw2 : Below w1.heap.size w1 w2 := ((Below.refl _ _).alloc (Nat.le_refl _) _).trans (hb2.mono (by simp))
         have hz2 : w1.heap.size < w2.heap.size := Nat.lt_of_lt_of_le (by simp) hb2.size
         have H2 := hid (And.intro hs2 (And.intro hz2 (And.intro hc2 (And.intro (H1.out.2.1.keep hw2 (Nat.le_refl _)) (H1.out.2.2.trans (hw2.mono H1.out.2.2.size))))))
         clear hs2 hb2 hc2 hw2 hz2)
      | (go_at_call 79; refine (HW.out _ _ _ _ _ (by exact H2.out.1) (by exact H2.out.2.1) (by exact H2.out.2.2.1) (by exact H2.out.2.2.2.1)).mono ?_; rintro e w3 ⟨rfl, hb3⟩; have H3 := hid (H2.out.2.2.2.2.trans (hb3.mono H2.out.2.2.2.2.size)); clear hb3))
    go_ret2
    exact ⟨rfl, H3.out⟩

set_option maxRecDepth 100000 in
set_option maxHeartbeats 1600000 in
theorem orecover_le (t : ByteArray) (ht : t.size ≤ 1000000) (sig : ByteArray) (w : World) :
    Calls Try.prog 89 #[.string t, .string sig] w fun e w' => e = .returned (.tuple #[.string (recS t sig), .bool (sigOk sig)]) ∧ Below w.heap.size w w' := by
  by_cases hs : sig.size = 560
  · have hb : sigOk sig = true := decide_eq_true hs
    obtain ⟨Y, eY⟩ : ∃ Y : ByteArray, Y = ⟨(chB (fun i => 15 - (txtN t).getD i 0) (pieceS sig) 35).toArray⟩ := ⟨_, rfl⟩
    have hY : Y.size = 560 := by rw [eY, mk_size, chB_len _ _ _ (fun i hi => pieceS_size sig i hs hi)]
    obtain ⟨T, eT⟩ : ∃ T, T = shaS Y := ⟨_, rfl⟩
    rw [show recS t sig = T by unfold recS; rw [hb, eT, eY]; rfl, hb]
    have hz : (sig.size : Int) = 560 := by omega
    have HS : Hid (∀ (u : World) (g : Nat), g = u.heap.size → Calls Try.prog 99 #[.slice (some ⟨g, 0, none⟩) 1 1] (u.alloc (.cells #[.string Y] 9)) fun e w' => e = .returned (.string T) ∧ Below u.heap.size u w') := hid (fun u g hg => by rw [eT]; exact sum_one Y (by omega) u g hg)
    have HD : Hid (∀ u : World, Calls Try.prog 78 #[.string t] u fun e w' => ∃ g cap, e = .returned (.slice (some ⟨g, 0, none⟩) 35 cap) ∧ u.heap.size ≤ g ∧ g < w'.heap.size ∧ IntsIn w' (some ⟨g, 0, none⟩) (nI (txtN t)) ∧ Below u.heap.size u w') := hid (odigits_le t ht)
    have HG : Hid (∀ u : World, Calls Try.prog 104 #[.string sig] u fun e w' => ∃ g, e = .returned (.slice (some ⟨g, 0, none⟩) 35 35) ∧ StrsIn w' (some ⟨g, 0, none⟩) (pieL sig) ∧ Below u.heap.size u w') := hid (pieces_at sig hs)
    have HW : Hid (∀ (u : World) (g b gd cap : Nat), StrsIn u (some ⟨g, 0, none⟩) (pieL sig) → b < u.heap.size → u.cell? ⟨b, 0, none⟩ = some (.slice (some ⟨gd, 0, none⟩) 35 cap) → IntsIn u (some ⟨gd, 0, none⟩) (nI (txtN t)) → Calls Try.prog 79 #[.slice (some ⟨g, 0, none⟩) 35 35, .func (.func 105) #[] #[.pointer (some ⟨b, 0, none⟩)]] u fun e w' => e = .returned (.string Y) ∧ Below u.heap.size u w') := hid (fun u g b gd cap hS hbl hcb hI => by
      rw [eY]
      exact walked_recover b (pieL sig) (pieceS sig) (fun i => 15 - (txtN t).getD i 0) g u (pieL_len _) (fun j hj => pieL_get _ _ hj) (fun j hj => pieceS_size sig j hs hj) (fun j _ => Nat.sub_le _ _) hS
        (fun j hj v hv => recover1_any b gd cap j _ (by omega) (by have := txtN_lt t j; omega) v ((hv.cell (p := ⟨b, 0, none⟩) hbl).trans hcb) ((hv.cell (p := ⟨gd, j, none⟩) (dig_cell hI j hj).1).trans (dig_cell hI j hj).2)))
    clear eY eT hY hs ht hb
    go_enter Try.func89, Try.ntmps89
    go_wp2_with (first
      | (go_at_call 78; refine (HD.out _).mono ?_; rintro e w1 ⟨gd, cap, rfl, hgl, hg1, hi1, hb1⟩; have H1 := hid (And.intro hg1 (And.intro hi1 hb1)); clear hgl hg1 hi1 hb1)
      | (go_at_call 104; refine (HG.out _).mono ?_; rintro e w2 ⟨g2, rfl, hs2, hb2⟩
         have hc2 : w2.cell? ⟨w1.heap.size, 0, none⟩ = some (.slice (some ⟨gd, 0, none⟩) 35 cap) := (hb2.cell (p := ⟨w1.heap.size, 0, none⟩) (by simp)).trans (cell_at (L := [.slice (some ⟨gd, 0, none⟩) 35 cap]) (t := 114) (fr := (0, 0)) (heap_alloc_last w1 _) 0 _ rfl)
         have hw2 : Below w1.heap.size w1 w2 := ((Below.refl _ _).alloc (Nat.le_refl _) _).trans (hb2.mono (by simp))
         have hz2 : w1.heap.size < w2.heap.size := Nat.lt_of_lt_of_le (by simp) hb2.size
         have H2 := hid (And.intro hs2 (And.intro hz2 (And.intro hc2 (And.intro (H1.out.2.1.keep hw2 (Nat.le_refl _)) (H1.out.2.2.trans (hw2.mono H1.out.2.2.size))))))
         clear hs2 hb2 hc2 hw2 hz2)
      | (go_at_call 79; refine (HW.out _ _ _ _ _ (by exact H2.out.1) (by exact H2.out.2.1) (by exact H2.out.2.2.1) (by exact H2.out.2.2.2.1)).mono ?_; rintro e w3 ⟨rfl, hb3⟩; have H3 := hid (H2.out.2.2.2.2.trans (hb3.mono H2.out.2.2.2.2.size)); clear hb3)
      | (go_at_call 99; refine (HS.out _ _ (by simp)).mono ?_; rintro e w4 ⟨rfl, hb4⟩; have H4 := hid (H3.out.trans (hb4.mono H3.out.size)); clear hb4))
    go_ret2
    exact ⟨rfl, H4.out⟩
  · have hb : sigOk sig = false := decide_eq_false hs
    rw [show recS t sig = ⟨#[]⟩ by unfold recS; rw [hb]; rfl, hb]
    have hz : ¬ ((sig.size : Int) = 560) := by omega
    clear hs hb ht
    go_enter Try.func89, Try.ntmps89
    go_wp2
    go_ret2
    exact ⟨rfl, Below.refl _ _⟩
end Go.Proofs.Ytchlmcpnjpllnaa

/- Lists of numbers held against each other. -/
namespace Go.Proofs.Ytchlmcpnjpllnaa
open Go.RowKit

end Go.Proofs.Ytchlmcpnjpllnaa

/- The document's steps, beginnings and digits. -/
namespace Go.Proofs.Ytchlmcpnjpllnaa
open Go.RowKit

set_option maxRecDepth 100000 in
set_option maxHeartbeats 1600000 in
theorem pstep_le (x : ByteArray) (hx : x.size ≤ 1000000) (k : Nat) (hk : k ≤ 15) (w : World) :
    Calls Try.prog 93 #[.string x, .int .i64 (k : Int)] w fun e w' => e = .returned (.string (stepN k x)) ∧ Below w.heap.size w w' := by
  have HX := hid hx
  have hk2 : (k : Int) ≤ 15 := by omega
  clear hx
  go_enter Try.func93, Try.ntmps93
  go_wp2
  go_loopw [0, 5] (fun v i wr => ∃ j : Nat, j ≤ k ∧ i = .int .i64 (j : Int) ∧ v = .string (stepN j x) ∧ Below w.heap.size w wr)
    (fun _ i _ => ((k : Int) - intOf i).toNat)
  case atStart => exact ⟨0, by omega, rfl, rfl, Below.refl _ _⟩
  case round =>
    obtain ⟨j, hj, rfl, rfl, hbel⟩ := hrel
    have HB := hid hbel
    clear hbel
    by_cases hjn : j = k
    · have hj1 : ¬ ((j : Int) < (k : Int)) := by omega
      have HJ := hid hjn
      clear hj hjn
      go_wp2
      go_ret
      exact ⟨by rw [HJ.out]; rfl, HB.out⟩
    · have hj1 : (j : Int) < (k : Int) := by omega
      have hj0 : (0 : Int) ≤ (j : Int) := Int.natCast_nonneg _
      have hj15 : (j : Int) < 15 := by omega
      obtain ⟨y, ey⟩ : ∃ y, y = stepN j x := ⟨_, rfl⟩
      obtain ⟨T, eT⟩ : ∃ T, T = shaS y := ⟨_, rfl⟩
      have HS : Hid (∀ u : World, Calls Try.prog 72 #[.string y] u fun e w' => e = .returned (.string T) ∧ Below u.heap.size u w') :=
        hid (fun u => by rw [eT]; exact qsum_s y (by rw [ey]; exact Nat.le_trans (stepN_le j x 1000000 HX.out (by decide)) (by decide)) u)
      have hT : (16 : Int) ≤ (T.size : Int) := by rw [eT, shaS_size]; decide
      have HT : Hid (T.extract 0 16 = stepN (j + 1) x) := hid (by rw [eT, shaS_16, ey, stepN_succ])
      rw [← ey]
      clear ey eT
      go_wp2_with (go_at_call 72; refine (HS.out _).mono ?_; rintro e w1 ⟨rfl, hb1⟩; have H1 := hid (HB.out.trans (hb1.mono HB.out.size)); clear hb1)
      go_roundw
      case rel => exact ⟨j + 1, by omega, by go_num, by rw [← HT.out], H1.out⟩
      case measure => simp [intOf]; omega

theorem wrap_byte (x : UInt8) : wrap64 (x.toNat : Int) = (x.toNat : Int) := by have := x.toNat_lt; simp only [wrap64]; omega
theorem half_hiX (x : UInt8) : wrap64 ((wrap64 (x.toNat : Int)).tdiv 16) = ((x.toNat / 16 : Nat) : Int) := by
  have := x.toNat_lt
  rw [wrap_byte, Int.tdiv_eq_ediv_of_nonneg (by omega)]
  simp only [wrap64]
  omega
theorem half_loX (x : UInt8) : (wrap64 (x.toNat : Int)).tmod 16 = ((x.toNat % 16 : Nat) : Int) := by
  rw [wrap_byte, Int.tmod_eq_emod_of_nonneg (by omega)]
  omega
set_option maxRecDepth 100000 in
set_option maxHeartbeats 1600000 in
theorem pdigits_le (t : ByteArray) (ht : t.size ≤ 1000000) (w : World) :
    Calls Try.prog 92 #[.string t] w fun e w' => ∃ g cap, e = .returned (.slice (some ⟨g, 0, none⟩) 35 cap) ∧ w.heap.size ≤ g ∧ g < w'.heap.size ∧ IntsIn w' (some ⟨g, 0, none⟩) (nI (txtN t)) ∧ Below w.heap.size w w' := by
  obtain ⟨i0, hi0, hz0, hz1, hz2⟩ := info_parts Try.info3
  obtain ⟨d, ed⟩ : ∃ d, d = shaS t := ⟨_, rfl⟩
  have HS : Hid (∀ u : World, Calls Try.prog 72 #[.string t] u fun e w' => e = .returned (.string d) ∧ Below u.heap.size u w') := hid (fun u => by rw [ed]; exact qsum_s t (by omega) u)
  obtain ⟨D, eD⟩ : ∃ D, D = d.data.toList.take 16 := ⟨_, rfl⟩
  have hd : d.size = 32 := by rw [ed, shaS_size]
  have hD : D.length = 16 := by rw [eD, List.length_take, data_len]; omega
  have eN : txtN t = dgN D := by rw [eD, ed, shaS_take]; rfl
  rw [eN]
  have hd2 : (16 : Int) ≤ (d.size : Int) := by omega
  have HD := hid (And.intro eD hD)
  clear eD hD hd eN ed ht
  go_enter Try.func92, Try.ntmps92
  go_wp2_with (go_at_call 72; refine (HS.out _).mono ?_; rintro e w1 ⟨rfl, hb1⟩; have H1 := hid hb1; clear hb1)
  go_loopw [4, 5, 6] (fun v l i wr => ∃ j : Nat, j ≤ 16 ∧ i = .int .i64 (j : Int) ∧ l = .int .i64 ((30 * j - sumN (D.take j) : Nat) : Int) ∧ OwnedI w1.heap.size w1 wr v (nI (halfN (D.take j))))
    (fun _ _ i _ => (16 - intOf i).toNat)
  case atStart => exact ⟨0, by omega, rfl, rfl, OwnedI.nil (Below.refl _ _) (Nat.le_refl _)⟩
  case round =>
    obtain ⟨j, hj, rfl, rfl, hO⟩ := hrel
    have HO := hid hO
    clear hO
    by_cases hj8 : j = 16
    · have hj1 : ¬ ((j : Int) < 16) := by omega
      have et : D.take j = D := List.take_of_length_le (by rw [HD.out.2]; omega)
      rw [et] at HO ⊢
      obtain ⟨L, eL⟩ : ∃ L, L = 30 * j - sumN D := ⟨_, rfl⟩
      rw [← eL]
      have HL : Hid (L = 480 - sumN D) := hid (by rw [eL, hj8])
      have hL : (L : Int) ≤ 480 := by have := HL.out; omega
      have hL0 : (0 : Int) ≤ (L : Int) := Int.natCast_nonneg _
      have HN : Hid ((nI (halfN D)).length + 3 ≤ 40) := hid (by rw [nI_len, halfN_len, HD.out.2]; decide)
      clear eL et hj hj8
      go_wp2_with (at_builtin; refine wpList_append_own _ rfl _ _ 114 rfl w1.heap.size 3 i0 (.int .i64 0) 1 8 Try.underlying114 hi0 hz0 hz1 hz2 rfl (by decide) _ _ _ rfl (HO.out.alloc _).own ⟨_, 0, none⟩ 3 3 (iC (nI [L / 256, L / 16 % 16, L % 16])) rfl rfl (World.news_of_block (t := 3) (fr := (0, 0)) (heap_alloc_last _ _)) (iC_one _) (by have := HN.out; unfold maxLen; omega) (by have := HN.out; omega) (HO.out.alloc _).le ?_; intro v3 w3 hown3 hgrow3 hnil3; have HO3 := hid ((HO.out.alloc _).grow (xs := nI [L / 256, L / 16 % 16, L % 16]) rfl hown3 hgrow3); clear hown3 hgrow3 hnil3)
      go_ret
      have ho := HO3.out
      rw [← nI_app, HL.out, show halfN D ++ [(480 - sumN D) / 256, (480 - sumN D) / 16 % 16, (480 - sumN D) % 16] = dgN D from rfl] at ho
      obtain ⟨g, cap, hv, _, _, hg, hB, hc⟩ := ho.form (by rw [nI_len, dgN_len D HD.out.2]; decide)
      rw [nI_len, dgN_len D HD.out.2] at hv
      subst hv
      exact ⟨g, ⟨cap, rfl⟩, Nat.le_trans H1.out.size hB, hg, .inr ⟨g, 0, rfl, hg, fun j z hz => by rw [Nat.zero_add]; exact hc j z hz⟩, H1.out.trans (ho.bel.mono H1.out.size)⟩
    · have hj1 : (j : Int) < 16 := by omega
      have hj0 : (0 : Int) ≤ (j : Int) := Int.natCast_nonneg _
      obtain ⟨L, eL⟩ : ∃ L, L = 30 * j - sumN (D.take j) := ⟨_, rfl⟩
      rw [← eL]
      have HL := hid eL
      clear eL
      have hjd : (j : Int) < (d.size : Int) := by omega
      have hjn : j < d.size := by omega
      go_wp2
      go_quiet (fail)
      rw [half_hiX, half_loX]
      have HO2 : Hid (OwnedI w1.heap.size w1 (wr.drewN nq) u4 (nI (halfN (D.take j)))) := hid (HO.out.same rfl rfl rfl rfl)
      have hget : D[j]? = some d[j] := by
        rw [HD.out.1, List.getElem?_take_of_lt (by omega), Array.getElem?_toList]
        exact Array.getElem?_eq_getElem _
      have es := sumN_snoc D j _ hget
      have eh := halfN_snoc D j _ hget
      have hle := sumN_le (D.take j)
      rw [List.length_take, HD.out.2] at hle
      unfold twoN at eh
      have hb := d[j].toNat_lt
      generalize d[j].toNat = x at es eh hb ⊢
      obtain ⟨p, ep⟩ : ∃ p, p = x / 16 := ⟨_, rfl⟩
      obtain ⟨q, eq⟩ : ∃ q, q = x % 16 := ⟨_, rfl⟩
      rw [← ep, ← eq] at es eh ⊢
      have hp : (p : Int) < 16 := by omega
      have hq : (q : Int) < 16 := by omega
      have hp0 : (0 : Int) ≤ (p : Int) := by omega
      have hq0 : (0 : Int) ≤ (q : Int) := by omega
      have hL : (L : Int) ≤ 480 := by have := HL.out; omega
      have hL0 : (0 : Int) ≤ (L : Int) := by omega
      have HN : Hid ((nI (halfN (D.take j))).length + 2 ≤ 40) := hid (by rw [nI_len, halfN_len, List.length_take, HD.out.2]; omega)
      have HE := hid (And.intro es (And.intro eh hle))
      have HJ := hid (And.intro hj hj8)
      clear es eh hle hget HO ep eq hb hj hj8
      go_wp2_with (at_builtin; refine wpList_append_own _ rfl _ _ 114 rfl w1.heap.size 3 i0 (.int .i64 0) 1 8 Try.underlying114 hi0 hz0 hz1 hz2 rfl (by decide) _ _ _ rfl (HO2.out.alloc _).own ⟨_, 0, none⟩ 2 2 (iC (nI [p, q])) rfl rfl (World.news_of_block (t := 3) (fr := (0, 0)) (heap_alloc_last _ _)) (iC_one _) (by have := HN.out; unfold maxLen; omega) (by have := HN.out; omega) (HO2.out.alloc _).le ?_; intro v3 w3 hown3 hgrow3 hnil3; have HO3 := hid ((HO2.out.alloc _).grow (xs := nI [p, q]) rfl hown3 hgrow3); clear hown3 hgrow3 hnil3)
      go_roundw
      case rel =>
        refine ⟨j + 1, by have := HJ.out; omega, by go_num, ?_, ?_⟩
        · have h1 := HL.out
          have h2 := HE.out.1
          have h3 := HE.out.2.2
          have h4 := HJ.out
          congr 1
          omega
        · have := HO3.out
          rw [← nI_app] at this
          rw [HE.out.2.1]
          exact this
      case measure => simp [intOf]; omega
end Go.Proofs.Ytchlmcpnjpllnaa

/- The document's public keys, signatures, and what a signature leads to. -/
namespace Go.Proofs.Ytchlmcpnjpllnaa
open Go.RowKit

theorem ch_room (k : Nat → Nat) (p : Nat → ByteArray) (j : Nat) (hj : j < 35) (hp : ∀ i, i < 35 → (p i).size = 16) : (chB k p j).length + (stepN (k j) (p j)).size ≤ 140737488355328 := by
  have := ch_bound k p j (by omega) hp
  rw [stepN_size _ _ (hp j hj)]
  omega

end Go.Proofs.Ytchlmcpnjpllnaa

/- The document's signatures, and what a signature leads to. -/
namespace Go.Proofs.Ytchlmcpnjpllnaa
open Go.RowKit

set_option maxRecDepth 100000 in
set_option maxHeartbeats 3200000 in
theorem precover_le (t : ByteArray) (ht : t.size ≤ 1000000) (sig : ByteArray) (w : World) :
    Calls Try.prog 71 #[.string t, .string sig] w fun e w' => e = .returned (.tuple #[.string (recS t sig), .bool (sigOk sig)]) ∧ Below w.heap.size w w' := by
  by_cases hs : sig.size = 560
  · have hb : sigOk sig = true := decide_eq_true hs
    obtain ⟨p, ep⟩ : ∃ p : Nat → ByteArray, p = pieceS sig := ⟨_, rfl⟩
    obtain ⟨k, ek⟩ : ∃ k : Nat → Nat, k = fun i => 15 - (txtN t).getD i 0 := ⟨_, rfl⟩
    obtain ⟨Y, eY⟩ : ∃ Y : ByteArray, Y = ⟨(chB k p 35).toArray⟩ := ⟨_, rfl⟩
    obtain ⟨T, eT⟩ : ∃ T, T = shaS Y := ⟨_, rfl⟩
    rw [show recS t sig = T by unfold recS; rw [hb, eT, eY, ep, ek]; rfl, hb]
    have HP : Hid (∀ i, i < 35 → (p i).size = 16) := hid (fun i hi => by rw [ep]; exact pieceS_size sig i hs hi)
    have hY : Y.size = 560 := by rw [eY, mk_size, chB_len _ _ _ HP.out]
    have HD : Hid (∀ u : World, Calls Try.prog 92 #[.string t] u fun e w' => ∃ g cap, e = .returned (.slice (some ⟨g, 0, none⟩) 35 cap) ∧ u.heap.size ≤ g ∧ g < w'.heap.size ∧ IntsIn w' (some ⟨g, 0, none⟩) (nI (txtN t)) ∧ Below u.heap.size u w') := hid (pdigits_le t ht)
    have HT : Hid (∀ (j : Nat), j < 35 → ∀ (x : ByteArray) (z : Int) (u : World), x = pieceS sig j → z = 15 - (((txtN t).getD j 0 : Nat) : Int) → Calls Try.prog 93 #[.string x, .int .i64 z] u fun e w' => e = .returned (.string (stepN (k j) (p j))) ∧ Below u.heap.size u w') := hid (fun j hj x z u hx hz => by
      have h15 := txtN_lt t j
      have e : z = (k j : Int) := by rw [hz, ek]; show _ = ((15 - (txtN t).getD j 0 : Nat) : Int); omega
      rw [hx, e, ← ep]
      exact pstep_le (p j) (by rw [HP.out j hj]; decide) (k j) (by rw [ek]; exact Nat.sub_le _ _) u)
    have HS : Hid (∀ u : World, Calls Try.prog 72 #[.string Y] u fun e w' => e = .returned (.string T) ∧ Below u.heap.size u w') := hid (fun u => by rw [eT]; exact qsum_s Y (by omega) u)
    have HY := hid eY
    have hz : (sig.size : Int) = 560 := by omega
    clear eY eT hY hs ht hb ep ek
    go_enter Try.func71, Try.ntmps71
    go_wp2_with (go_at_call 92; refine (HD.out _).mono ?_; rintro e w1 ⟨gd, cap, rfl, hgl, hg1, hi1, hb1⟩; have H1 := hid (And.intro hg1 (And.intro hi1 hb1)); clear hgl hg1 hi1 hb1)
    go_loopw [7, 8] (fun v i wr => ∃ j : Nat, j ≤ 35 ∧ i = .int .i64 (j : Int) ∧ Owned w1.heap.size w1 wr v (chB k p j))
      (fun _ i _ => (35 - intOf i).toNat)
    case atStart => exact ⟨0, by omega, rfl, Owned.nil (Below.refl _ _) (Nat.le_refl _)⟩
    case round =>
      obtain ⟨j, hj, rfl, hO⟩ := hrel
      have HO := hid hO
      clear hO
      by_cases hjn : j = 35
      · have hj1 : ¬ ((j : Int) < 35) := by omega
        subst hjn
        have hc := HO.out.text
        rw [← HY.out] at hc
        have HC := hid hc
        clear hc hj
        go_wp2_with (first
          | rw [HC.out]
          | (go_at_call 72; refine (HS.out _).mono ?_; rintro e w3 ⟨rfl, hb3⟩; have H3 := hid (HO.out.bel.trans (hb3.mono HO.out.le)); clear hb3))
        go_ret2
        exact ⟨rfl, H1.out.2.2.trans (H3.out.mono H1.out.2.2.size)⟩
      · have hj1 : (j : Int) < 35 := by omega
        have hj0 : (0 : Int) ≤ (j : Int) := Int.natCast_nonneg _
        obtain ⟨m, em⟩ : ∃ m : Nat, m = 16 * j := ⟨_, rfl⟩
        obtain ⟨m2, em2⟩ : ∃ m2 : Nat, m2 = 16 * j + 16 := ⟨_, rfl⟩
        have e1 : IntKind.i64.wrap (16 * (j : Int)) = (m : Int) := by rw [wrap_small _ (by omega) (by omega)]; omega
        have e2 : IntKind.i64.wrap ((m : Int) + 16) = (m2 : Int) := by rw [wrap_small _ (by omega) (by omega)]; omega
        have hm0 : (0 : Int) ≤ (m : Int) := by omega
        have hm1 : (0 : Int) ≤ (m2 : Int) := by omega
        have hm2 : (m : Int) ≤ (m2 : Int) := by omega
        have hm3 : (m2 : Int) ≤ 560 := by omega
        have HM : Hid (sig.extract m m2 = pieceS sig j) := hid (by rw [pieceS, em, em2])
        clear em em2
        have HN : Hid ((chB k p j).length + (stepN (k j) (p j)).size ≤ 140737488355328) := hid (ch_room k p j (by omega) HP.out)
        have HE := hid (chB_succ k p j)
        have HTj := hid (HT.out j (by omega))
        have hdc := dig_cell H1.out.2.1 j (by omega)
        have hd15 := txtN_lt t j
        obtain ⟨y, ey⟩ : ∃ y, y = stepN (k j) (p j) := ⟨_, rfl⟩
        obtain ⟨d, ed⟩ : ∃ d, d = (txtN t).getD j 0 := ⟨_, rfl⟩
        rw [← ey] at HTj HN HE
        rw [← ed] at HTj hdc hd15
        have hd1 : (d : Int) < 16 := by omega
        have hd0 : (0 : Int) ≤ (d : Int) := Int.natCast_nonneg _
        obtain ⟨c, ec⟩ : ∃ c : Nat, c = 15 - d := ⟨_, rfl⟩
        have e3 : IntKind.i64.wrap (15 - (d : Int)) = (c : Int) := by rw [wrap_small _ (by omega) (by omega)]; omega
        have HCc : Hid ((c : Int) = 15 - (d : Int)) := hid (by omega)
        clear ec
        have HDc := hid hdc
        have cd : wr.cell? ⟨gd, j, none⟩ = some (.int .i64 (d : Int)) := (HO.out.bel.cell (p := ⟨gd, j, none⟩) hdc.1).trans hdc.2
        have HJ := hid (And.intro hj hjn)
        clear hj hjn ey ed hdc hd15
        go_wp2_with fail
        go_region_law
          ((first
            | (refine step_of rfl (owp_app_str _ _ rfl w1.heap.size w1 _ (chB k p j) rfl (by exact H3.out) y rfl HN.out ?_); intro v4 w4 H4)
            | (go_simp; go_at_call 93; refine (HTj.out _ _ _ (by exact HM.out) (by exact HCc.out)).mono ?_; rintro e w3 ⟨rfl, hb3⟩; have H3 := hid (HO.out.drew.keep hb3); clear hb3)))
        all_goals go_wp2
        all_goals
          go_roundw
          case rel => exact ⟨j + 1, by have := HJ.out; omega, by go_num, by rw [HE.out]; exact H4.out⟩
          case measure => simp [intOf]; omega
  · have hb : sigOk sig = false := decide_eq_false hs
    rw [show recS t sig = ⟨#[]⟩ by unfold recS; rw [hb]; rfl, hb]
    have hz : ¬ ((sig.size : Int) = 560) := by omega
    clear hs hb ht
    go_enter Try.func71, Try.ntmps71
    go_wp2
    go_ret2
    exact ⟨rfl, Below.refl _ _⟩
end Go.Proofs.Ytchlmcpnjpllnaa

/- The document's trees: powers, nodes, leaves, roots. -/
namespace Go.Proofs.Ytchlmcpnjpllnaa
open Go.RowKit

set_option maxRecDepth 100000 in
set_option maxHeartbeats 1600000 in
theorem hpower_le (h : Nat) (hh : h ≤ 5) (w : World) :
    Calls Try.prog 70 #[.int .i64 (h : Int)] w fun e w' => e = .returned (.int .i64 ((2 ^ h : Nat) : Int)) ∧ w' = w := by
  have hh2 : (h : Int) ≤ 5 := by omega
  obtain ⟨N, eN⟩ : ∃ N, N = 2 ^ h := ⟨_, rfl⟩
  rw [← eN]
  have HH := hid (And.intro hh eN)
  clear hh eN
  go_enter Try.func70, Try.ntmps70
  go_wp2
  go_loopw [3, 4] (fun v i wr => ∃ j : Nat, j ≤ h ∧ i = .int .i64 (j : Int) ∧ v = .int .i64 ((2 ^ j : Nat) : Int) ∧ wr = w)
    (fun _ i _ => ((h : Int) - intOf i).toNat)
  case atStart => exact ⟨0, by omega, rfl, rfl, rfl⟩
  case round =>
    obtain ⟨j, hj, rfl, rfl, rfl⟩ := hrel
    by_cases hjn : j = h
    · have hj1 : ¬ ((j : Int) < (h : Int)) := by omega
      rw [show 2 ^ j = N by rw [HH.out.2, hjn]]
      clear hj hjn
      go_wp2
      go_ret
      exact ⟨rfl, rfl⟩
    · have hj1 : (j : Int) < (h : Int) := by omega
      have hj0 : (0 : Int) ≤ (j : Int) := Int.natCast_nonneg _
      obtain ⟨p, ep⟩ : ∃ p, p = 2 ^ j := ⟨_, rfl⟩
      have hp : p ≤ 32 := by rw [ep]; exact pow_le5 j (by have := HH.out.1; omega)
      have hp1 : (p : Int) ≤ 32 := by omega
      have hp0 : (0 : Int) ≤ (p : Int) := Int.natCast_nonneg _
      rw [← ep]
      have HP : Hid (2 ^ (j + 1) = p * 2) := hid (by rw [Nat.pow_succ, ep])
      have HJ := hid (And.intro hj hjn)
      clear ep hj hjn hp
      go_wp2
      go_roundw
      case rel => exact ⟨j + 1, by have := HJ.out; omega, by go_num, by rw [HP.out]; go_num, by first | exact rfl | exact trivial⟩
      case measure => simp [intOf]; omega

theorem nodeS_zero (L : List ByteArray) (first : Nat) : nodeS L first 0 = L.getD first ⟨#[]⟩ := rfl
theorem nodeS_succ (L : List ByteArray) (first h : Nat) : nodeS L first (h + 1) = shaS (nodeS L first h ++ nodeS L (first + 2 ^ h) h) := rfl
def rightB (h : Int) : Bool := decide (0 ≤ h ∧ h ≤ 5)
def rightE (h : Int) : Int := if rightB h then 0 else 1
theorem rightE_yes {h : Int} (h0 : 0 ≤ h) (h5 : h ≤ 5) : rightE h = 0 := by unfold rightE rightB; rw [decide_eq_true ⟨h0, h5⟩]; rfl
theorem rightE_no {h : Int} (hn : ¬ (0 ≤ h ∧ h ≤ 5)) : rightE h = 1 := by unfold rightE rightB; rw [decide_eq_false hn]; rfl
end Go.Proofs.Ytchlmcpnjpllnaa

/- Which signature the document takes. -/
namespace Go.Proofs.Ytchlmcpnjpllnaa
open Go.RowKit

theorem head_get (sig : ByteArray) (h : 0 < sig.size) : headN sig = (sig[0]'h).toNat := by
  have hd : 0 < sig.data.toList.length := by rw [data_len]; exact h
  rw [headN, List.getD_eq_getElem?_getD, List.getElem?_eq_getElem hd]
  rfl
theorem one_size (sig : ByteArray) (h : 561 ≤ sig.size) : (oneS sig).size = 560 := by
  rw [oneS, ← data_len, ext_data, List.length_drop, List.length_take, data_len]
  omega
theorem side_size (sig : ByteArray) (k h : Nat) (hs : sig.size = 561 + 32 * h) (hk : k < h) : (sideS sig k).size = 32 := by
  rw [sideS, ← data_len, ext_data, List.length_drop, List.length_take, data_len, hs]
  omega
theorem form_no {h : Int} {sig : ByteArray} (hn : ¬ (0 ≤ h ∧ h ≤ 5 ∧ sig.size = 561 + 32 * h.toNat ∧ headN sig < 2 ^ h.toNat)) : formB h sig = false := decide_eq_false hn
theorem rec_yes (t sig : ByteArray) (h : 561 ≤ sig.size) : recS t (oneS sig) = recN t sig ∧ sigOk (oneS sig) = true := by
  have hb : sigOk (oneS sig) = true := decide_eq_true (one_size sig h)
  exact ⟨by unfold recS; rw [hb]; rfl, hb⟩

set_option maxRecDepth 100000 in
set_option maxHeartbeats 3200000 in
theorem hverify_no1 (root : ByteArray) (h : Int) (t sig : ByteArray) (w : World) (hn : ¬ (0 ≤ h ∧ h ≤ 5 ∧ (sig.size : Int) = 561 + 32 * h)) :
    Calls Try.prog 48 #[.string root, .int .i64 h, .string t, .string sig] w fun e w' => e = .returned (.bool false) ∧ Below w.heap.size w w' := by
  by_cases h0 : h < 0
  · clear hn
    go_enter Try.func48, Try.ntmps48
    go_wp2
    go_quiet (fail)
    go_wp2
    go_ret
    exact ⟨rfl, ⟨rfl, rfl, rfl, Nat.le_refl _, fun _ _ => rfl⟩⟩
  by_cases h5 : 5 < h
  · clear hn
    have h1 : ¬ (h < 0) := h0
    go_enter Try.func48, Try.ntmps48
    go_wp2
    go_quiet (fail)
    go_wp2
    go_ret
    exact ⟨rfl, ⟨rfl, rfl, rfl, Nat.le_refl _, fun _ _ => rfl⟩⟩
  · obtain ⟨k, rfl⟩ : ∃ k : Nat, h = (k : Int) := ⟨h.toNat, by omega⟩
    have h1 : (k : Int) ≤ 5 := by omega
    have h2 : (0 : Int) ≤ (k : Int) := by omega
    have e1 : IntKind.i64.wrap (32 * (k : Int)) = ((32 * k : Nat) : Int) := by rw [wrap_small _ (by omega) (by omega)]; omega
    obtain ⟨m1, em1⟩ : ∃ m1, m1 = 32 * k := ⟨_, rfl⟩
    rw [← em1] at e1
    obtain ⟨m2, em2⟩ : ∃ m2, m2 = 561 + m1 := ⟨_, rfl⟩
    have e2 : IntKind.i64.wrap (561 + (m1 : Int)) = (m2 : Int) := by rw [wrap_small _ (by omega) (by omega)]; omega
    have h3 : ((sig.size : Int) != (m2 : Int)) = true := by
      have : ¬ ((sig.size : Int) = (m2 : Int)) := fun e => hn ⟨by omega, by omega, by omega⟩
      simpa using this
    have d1 : decide ((k : Int) < 0) = false := decide_eq_false (by omega)
    have d2 : decide ((5 : Int) < (k : Int)) = false := decide_eq_false (by omega)
    clear hn h0 h5 em1 em2
    go_enter Try.func48, Try.ntmps48
    go_wp2
    go_quiet (fail)
    go_wp2
    go_ret
    exact ⟨rfl, ⟨rfl, rfl, rfl, Nat.le_refl _, fun _ _ => rfl⟩⟩
end Go.Proofs.Ytchlmcpnjpllnaa

/- Which signature the document takes: by its first byte and its path. -/
namespace Go.Proofs.Ytchlmcpnjpllnaa
open Go.RowKit

set_option maxRecDepth 100000 in
set_option maxHeartbeats 3200000 in
theorem hverify_no2 (root : ByteArray) (k : Nat) (hk : k ≤ 5) (t sig : ByteArray) (hs : sig.size = 561 + 32 * k) (hh : ¬ headN sig < 2 ^ k) (w : World) :
    Calls Try.prog 48 #[.string root, .int .i64 (k : Int), .string t, .string sig] w fun e w' => e = .returned (.bool false) ∧ Below w.heap.size w w' := by
  obtain ⟨p, ep⟩ : ∃ p, p = 2 ^ k := ⟨_, rfl⟩
  obtain ⟨hd, ehd⟩ : ∃ hd, hd = headN sig := ⟨_, rfl⟩
  rw [← ep, ← ehd] at hh
  have HP : Hid (∀ u : World, Calls Try.prog 70 #[.int .i64 (k : Int)] u fun e w' => e = .returned (.int .i64 (p : Int)) ∧ w' = u) := hid (fun u => by rw [ep]; exact hpower_le k hk u)
  have hpos : 0 < sig.size := by omega
  have hpos1 : (0 : Int) < (sig.size : Int) := by omega
  have e00 : (sig[0]'hpos).toNat = hd := by rw [ehd, head_get sig hpos]
  have hd255 : (hd : Int) < 256 := by rw [ehd, head_get sig (by omega)]; have := (sig[0]'(by omega)).toNat_lt; omega
  have hd0 : (0 : Int) ≤ (hd : Int) := Int.natCast_nonneg _
  have e0 : IntKind.i64.wrap (hd : Int) = (hd : Int) := wrap_small _ (by omega) (by omega)
  have e1 : IntKind.i64.wrap (32 * (k : Int)) = ((32 * k : Nat) : Int) := by rw [wrap_small _ (by omega) (by omega)]; omega
  obtain ⟨m1, em1⟩ : ∃ m1, m1 = 32 * k := ⟨_, rfl⟩
  rw [← em1] at e1
  obtain ⟨m2, em2⟩ : ∃ m2, m2 = 561 + m1 := ⟨_, rfl⟩
  have e2 : IntKind.i64.wrap (561 + (m1 : Int)) = (m2 : Int) := by rw [wrap_small _ (by omega) (by omega)]; omega
  have h3 : ((sig.size : Int) != (m2 : Int)) = false := by
    have : (sig.size : Int) = (m2 : Int) := by omega
    simp [this]
  have d1 : decide ((k : Int) < 0) = false := decide_eq_false (by omega)
  have d2 : decide ((5 : Int) < (k : Int)) = false := decide_eq_false (by omega)
  have d3 : decide (p ≤ hd) = true := decide_eq_true (by omega)
  clear hs hh hk ep ehd em1 em2
  go_enter Try.func48, Try.ntmps48
  go_wp2
  haveI := Cls.ne w
  refine wp_region_cls w (by kernel_rfl) (by kernel_rfl) ?_
  repeat (go_big_quiet_step ((go_at_call 70; exact Cls.of _ (fun u _ => of_same HP.out u))))
  refine wpQuiet_nil ?_
  rintro _ ⟨x, rfl⟩
  go_wp2
  go_ret
  exact ⟨rfl, x.2⟩

set_option maxRecDepth 100000 in
set_option maxHeartbeats 3200000 in
theorem hverify_yes (root : ByteArray) (k : Nat) (hk : k ≤ 5) (t sig : ByteArray) (ht : t.size ≤ 1000000) (hs : sig.size = 561 + 32 * k) (hh : headN sig < 2 ^ k) (w : World) :
    Calls Try.prog 48 #[.string root, .int .i64 (k : Int), .string t, .string sig] w fun e w' => e = .returned (.bool ((upS sig (headN sig) (recN t sig) k).toList == root.toList)) ∧ Below w.heap.size w w' := by
  obtain ⟨p, ep⟩ : ∃ p, p = 2 ^ k := ⟨_, rfl⟩
  obtain ⟨hd, ehd⟩ : ∃ hd, hd = headN sig := ⟨_, rfl⟩
  obtain ⟨N, eN⟩ : ∃ N, N = recN t sig := ⟨_, rfl⟩
  have hN : N.size ≤ 32 := by rw [eN, recN_size]; exact Nat.le_refl _
  rw [← eN, ← ehd]
  rw [← ep, ← ehd] at hh
  have HP : Hid (∀ u : World, Calls Try.prog 70 #[.int .i64 (k : Int)] u fun e w' => e = .returned (.int .i64 (p : Int)) ∧ w' = u) := hid (fun u => by rw [ep]; exact hpower_le k hk u)
  have HR : Hid (∀ u : World, Calls Try.prog 71 #[.string t, .string (sig.extract 1 561)] u fun e w' => e = .returned (.tuple #[.string N, .bool true]) ∧ Below u.heap.size u w') := hid (fun u => by
    have := precover_le t ht (oneS sig) u
    rw [(rec_yes t sig (by omega)).1, (rec_yes t sig (by omega)).2, ← eN] at this
    exact this)
  have hpos : 0 < sig.size := by omega
  have hpos1 : (0 : Int) < (sig.size : Int) := by omega
  have h561 : (561 : Int) ≤ (sig.size : Int) := by omega
  have hsz : (sig.size : Int) = 561 + 32 * (k : Int) := by omega
  have e00 : (sig[0]'hpos).toNat = hd := by rw [ehd, head_get sig hpos]
  have hd255 : (hd : Int) < 256 := by rw [ehd, head_get sig (by omega)]; have := (sig[0]'(by omega)).toNat_lt; omega
  have hd0 : (0 : Int) ≤ (hd : Int) := Int.natCast_nonneg _
  have e0 : IntKind.i64.wrap (hd : Int) = (hd : Int) := wrap_small _ (by omega) (by omega)
  have e1 : IntKind.i64.wrap (32 * (k : Int)) = ((32 * k : Nat) : Int) := by rw [wrap_small _ (by omega) (by omega)]; omega
  obtain ⟨m1, em1⟩ : ∃ m1, m1 = 32 * k := ⟨_, rfl⟩
  rw [← em1] at e1
  obtain ⟨m2, em2⟩ : ∃ m2, m2 = 561 + m1 := ⟨_, rfl⟩
  have e2 : IntKind.i64.wrap (561 + (m1 : Int)) = (m2 : Int) := by rw [wrap_small _ (by omega) (by omega)]; omega
  have h3 : ((sig.size : Int) != (m2 : Int)) = false := by
    have : (sig.size : Int) = (m2 : Int) := by omega
    simp [this]
  have d1 : decide ((k : Int) < 0) = false := decide_eq_false (by omega)
  have d2 : decide ((5 : Int) < (k : Int)) = false := decide_eq_false (by omega)
  have d3 : decide (p ≤ hd) = false := decide_eq_false (by omega)
  have hk5 : (k : Int) ≤ 5 := by omega
  have HK := hid (And.intro hs (And.intro hk hN))
  have HSZ := hid hsz
  clear hs hh hk ep ehd em1 em2 eN hN hsz ht
  go_enter Try.func48, Try.ntmps48
  go_wp2
  haveI := Cls.ne w
  refine wp_region_cls w (by kernel_rfl) (by kernel_rfl) ?_
  repeat (go_big_quiet_step ((go_at_call 70; exact Cls.of _ (fun u _ => of_same HP.out u))))
  refine wpQuiet_nil ?_
  rintro _ ⟨x, rfl⟩
  clear e0 e1 e2 h3 d1 d2 d3
  go_wp2_with (go_at_call 71; refine (HR.out _).mono ?_; rintro e w1 ⟨rfl, hb1⟩; have H1 := hid (x.2.trans (hb1.mono x.2.size)); clear hb1)
  go_loopw [9, 11, 12] (fun v q i wr => ∃ j : Nat, j ≤ k ∧ i = .int .i64 (j : Int) ∧ v = .string (upS sig hd N j) ∧ q = .int .i64 ((hd / 2 ^ j : Nat) : Int) ∧ Below w.heap.size w wr)
    (fun _ _ i _ => ((k : Int) - intOf i).toNat)
  case atStart => exact ⟨0, by omega, rfl, rfl, by rw [Nat.pow_zero, Nat.div_one], H1.out⟩
  case round =>
    obtain ⟨j, hj, rfl, rfl, rfl, hbel⟩ := hrel
    have HB := hid hbel
    clear hbel
    by_cases hjn : j = k
    · have hj1 : ¬ ((j : Int) < (k : Int)) := by omega
      subst hjn
      obtain ⟨q, eq⟩ : ∃ q, q = hd / 2 ^ j := ⟨_, rfl⟩
      rw [← eq]
      obtain ⟨X, eX⟩ : ∃ X, X = upS sig hd N j := ⟨_, rfl⟩
      rw [← eX]
      have HX := hid eX
      clear hj eq eX
      go_wp2
      go_ret
      exact ⟨by rw [← HX.out]; rfl, HB.out⟩
    · have hj1 : (j : Int) < (k : Int) := by omega
      have hj0 : (0 : Int) ≤ (j : Int) := Int.natCast_nonneg _
      have hj5 : (j : Int) < 5 := by omega
      have hj2 : 593 + 32 * (j : Int) ≤ (sig.size : Int) := by rw [HSZ.out]; omega
      have hev := upS_even sig hd N j
      have hod := upS_odd sig hd N j
      have hhalf := half_pow hd j
      have hqle : hd / 2 ^ j ≤ hd := Nat.div_le_self _ _
      have hXs : (upS sig hd N j).size ≤ 32 := upS_size sig hd N HK.out.2.2 j
      have hSs : (sideS sig j).size = 32 := side_size sig j k HK.out.1 (by omega)
      obtain ⟨q, eq⟩ : ∃ q, q = hd / 2 ^ j := ⟨_, rfl⟩
      rw [← eq] at hev hod hhalf hqle ⊢
      obtain ⟨X, eX⟩ : ∃ X, X = upS sig hd N j := ⟨_, rfl⟩
      rw [← eX] at hev hod hXs ⊢
      have HS : Hid (sideS sig j = sig.extract (561 + 32 * j) (593 + 32 * j)) := hid rfl
      obtain ⟨S, eS⟩ : ∃ S, S = sideS sig j := ⟨_, rfl⟩
      rw [← eS] at hev hod hSs HS
      have hq1 : (q : Int) < 256 := by omega
      have hq0 : (0 : Int) ≤ (q : Int) := Int.natCast_nonneg _
      have HJ := hid (And.intro hj (And.intro hjn hhalf))
      clear hqle hhalf eq eX eS hj hjn
      by_cases hpar : q % 2 = 0
      · have hpar1 : (q : Int) % 2 = 0 := by omega
        obtain ⟨T, eT⟩ : ∃ T, T = upS sig hd N (j + 1) := ⟨_, rfl⟩
        have HT : Hid (∀ u : World, Calls Try.prog 72 #[.string (X ++ sig.extract (561 + 32 * j) (593 + 32 * j))] u fun e w' => e = .returned (.string T) ∧ Below u.heap.size u w') := hid (fun u => by
          rw [eT, hev hpar, HS.out]
          refine qsum_s _ ?_ u
          rw [ByteArray.size_append, ← HS.out, hSs]
          omega)
        have hS2 : ((sig.extract (561 + 32 * j) (593 + 32 * j)).size : Int) = 32 := by rw [← HS.out, hSs]; rfl
        have hX2 : (X.size : Int) ≤ 32 := by omega
        have HU := hid eT
        clear hev hod hpar eT hSs hXs
        go_wp2_with (go_at_call 72; refine (HT.out _).mono ?_; rintro e w2 ⟨rfl, hb2⟩; have H2 := hid (HB.out.trans (hb2.mono HB.out.size)); clear hb2)
        go_roundw
        case rel => exact ⟨j + 1, by have := HJ.out; omega, by go_num, by rw [HU.out], by rw [HJ.out.2.2]; go_num, H2.out⟩
        case measure => simp [intOf]; omega
      · have hpar1 : ¬ ((q : Int) % 2 = 0) := by omega
        obtain ⟨T, eT⟩ : ∃ T, T = upS sig hd N (j + 1) := ⟨_, rfl⟩
        have HT : Hid (∀ u : World, Calls Try.prog 72 #[.string (sig.extract (561 + 32 * j) (593 + 32 * j) ++ X)] u fun e w' => e = .returned (.string T) ∧ Below u.heap.size u w') := hid (fun u => by
          rw [eT, hod hpar, HS.out]
          refine qsum_s _ ?_ u
          rw [ByteArray.size_append, ← HS.out, hSs]
          omega)
        have hS2 : ((sig.extract (561 + 32 * j) (593 + 32 * j)).size : Int) = 32 := by rw [← HS.out, hSs]; rfl
        have hX2 : (X.size : Int) ≤ 32 := by omega
        have HU := hid eT
        clear hev hod hpar eT hSs hXs
        go_wp2_with (go_at_call 72; refine (HT.out _).mono ?_; rintro e w2 ⟨rfl, hb2⟩; have H2 := hid (HB.out.trans (hb2.mono HB.out.size)); clear hb2)
        go_roundw
        case rel => exact ⟨j + 1, by have := HJ.out; omega, by go_num, by rw [HU.out], by rw [HJ.out.2.2]; go_num, H2.out⟩
        case measure => simp [intOf]; omega

/-- Which signature the document takes. -/
theorem hverify_any (root : ByteArray) (h : Int) (t sig : ByteArray) (ht : t.size ≤ 1000000) (w : World) :
    Calls Try.prog 48 #[.string root, .int .i64 h, .string t, .string sig] w fun e w' => e = .returned (.bool (takenB root h t sig)) ∧ Below w.heap.size w w' := by
  by_cases h1 : 0 ≤ h ∧ h ≤ 5 ∧ (sig.size : Int) = 561 + 32 * h
  · obtain ⟨k, rfl⟩ : ∃ k : Nat, h = (k : Int) := ⟨h.toNat, by omega⟩
    by_cases h2 : headN sig < 2 ^ k
    · have hf : formB (k : Int) sig = true := decide_eq_true ⟨h1.1, h1.2.1, by rw [Int.toNat_natCast]; omega, by rw [Int.toNat_natCast]; exact h2⟩
      rw [takenB, hf, Bool.true_and, Int.toNat_natCast]
      exact hverify_yes root k (by omega) t sig ht (by omega) h2 w
    · rw [taken_no (form_no (fun hc => h2 (by have := hc.2.2.2; rwa [Int.toNat_natCast] at this)))]
      exact hverify_no2 root k (by omega) t sig (by omega) h2 w
  · rw [taken_no (form_no (fun hc => h1 ⟨hc.1, hc.2.1, by have := hc.2.2.1; have := hc.1; omega⟩))]
    exact hverify_no1 root h t sig w h1
end Go.Proofs.Ytchlmcpnjpllnaa

/- Members, quorums, configurations, as functions. No walk here. -/
namespace Go.Proofs.Ytchlmcpnjpllnaa
open Go.RowKit

def fltZ (n : Int) : Int := if n < 1 then 0 else (n - 1) / 3
def quoZ (n : Int) : Int := if n < 1 then 0 else (n + fltZ n) / 2 + 1
def wekZ (n : Int) : Int := if n < 1 then 0 else fltZ n + 1
theorem fltZ_lo {n : Int} (h : n < 1) : fltZ n = 0 := if_pos h
theorem quoZ_lo {n : Int} (h : n < 1) : quoZ n = 0 := if_pos h
theorem wekZ_lo {n : Int} (h : n < 1) : wekZ n = 0 := if_pos h
theorem fltZ_hi {n : Int} (h : ¬ n < 1) : fltZ n = (n - 1) / 3 := if_neg h
theorem quoZ_hi {n : Int} (h : ¬ n < 1) : quoZ n = (n + fltZ n) / 2 + 1 := if_neg h
theorem wekZ_hi {n : Int} (h : ¬ n < 1) : wekZ n = fltZ n + 1 := if_neg h
theorem fltZ_le {n : Int} (h : ¬ n < 1) : 0 ≤ fltZ n ∧ 3 * fltZ n ≤ n - 1 := by rw [fltZ_hi h]; omega
/-- The i-th of the members is one, and stands behind the one ahead of it. -/
def okAt (l : List Int) (i : Nat) : Bool := decide (0 ≤ l.getD i 0 ∧ l.getD i 0 < 16) && (decide (i = 0) || decide (l.getD (i - 1) 0 < l.getD i 0))
def okTo (l : List Int) : Nat → Bool
  | 0 => true
  | j + 1 => okTo l j && okAt l j
theorem okTo_succ (l : List Int) (j : Nat) : okTo l (j + 1) = (okTo l j && okAt l j) := rfl
theorem okTo_false (l : List Int) (j n : Nat) (h : okTo l j = false) (hn : j ≤ n) : okTo l n = false := by
  induction n with
  | zero =>
    obtain rfl : j = 0 := by omega
    exact h
  | succ n ih =>
    by_cases e : j = n + 1
    · rw [← e]; exact h
    · rw [okTo_succ, ih (by omega)]; rfl
theorem okAt_no1 (l : List Int) (i : Nat) (h : ¬ (0 ≤ l.getD i 0 ∧ l.getD i 0 < 16)) : okAt l i = false := by rw [okAt, decide_eq_false h]; rfl
theorem okAt_no2 (l : List Int) (i : Nat) (h0 : i ≠ 0) (h : ¬ (l.getD (i - 1) 0 < l.getD i 0)) : okAt l i = false := by rw [okAt, decide_eq_false h, decide_eq_false h0]; simp
theorem okAt_yes0 (l : List Int) (h : 0 ≤ l.getD 0 0 ∧ l.getD 0 0 < 16) : okAt l 0 = true := by rw [okAt, decide_eq_true h]; rfl
theorem okAt_yes (l : List Int) (i : Nat) (h : 0 ≤ l.getD i 0 ∧ l.getD i 0 < 16) (h1 : l.getD (i - 1) 0 < l.getD i 0) : okAt l i = true := by rw [okAt, decide_eq_true h, decide_eq_true h1]; simp
/-- Are the members right? -/
def memB (l : List Int) : Bool := okTo l l.length && decide (4 ≤ l.length ∧ l.length ≤ 10)
/-- Is the configuration right? -/
def rightC (ep : Int) (l : List Int) : Bool := decide (0 ≤ ep ∧ ep ≤ 60) && memB l
def hasM (l : List Int) (id : Int) : Bool := decide (id ∈ l)
theorem okTo_at (l : List Int) : ∀ n, okTo l n = true → ∀ i, i < n → okAt l i = true
  | 0, _, i, hi => by omega
  | n + 1, h, i, hi => by
    rw [okTo_succ, Bool.and_eq_true_iff] at h
    by_cases e : i = n
    · rw [e]; exact h.2
    · exact okTo_at l n h.1 i (by omega)
theorem mem_len {l : List Int} (h : memB l = true) : 4 ≤ l.length ∧ l.length ≤ 10 := of_decide_eq_true (Bool.and_eq_true_iff.1 h).2
theorem mem_at {l : List Int} (h : memB l = true) (i : Nat) (hi : i < l.length) : okAt l i = true := okTo_at l _ (Bool.and_eq_true_iff.1 h).1 i hi
theorem mem_range {l : List Int} (h : memB l = true) (i : Nat) (hi : i < l.length) : 0 ≤ l.getD i 0 ∧ l.getD i 0 < 16 := of_decide_eq_true (Bool.and_eq_true_iff.1 (mem_at h i hi)).1
theorem mem_rise {l : List Int} (h : memB l = true) (i : Nat) (hi : i + 1 < l.length) : l.getD i 0 < l.getD (i + 1) 0 := by
  have := (Bool.and_eq_true_iff.1 (mem_at h (i + 1) hi)).2
  simpa using this
/-- Who leads. -/
def leadN (l : List Int) (view : Int) : Nat := (view % (l.length : Int)).toNat
def leads (ep : Int) (l : List Int) (view : Int) : Bool := rightC ep l && decide (0 ≤ view)
def leadZ (ep : Int) (l : List Int) (view : Int) : Int := if leads ep l view then l.getD (leadN l view) 0 else 0
end Go.Proofs.Ytchlmcpnjpllnaa

/- The document's counts, members and leaders. -/
namespace Go.Proofs.Ytchlmcpnjpllnaa
open Go.RowKit

theorem vfaults_any (n : Int) (hn : n ≤ 9223372036854775807) (w : World) : Calls Try.prog 73 #[.int .i64 n] w fun e w' => e = .returned (.int .i64 (fltZ n)) ∧ w' = w := by
  by_cases h : n < 1
  · rw [fltZ_lo h]
    go_enter Try.func73, Try.ntmps73
    go_wp2
    go_ret
    exact ⟨rfl, rfl⟩
  · have HF : Hid (fltZ n = (n - 1) / 3) := hid (fltZ_hi h)
    rw [HF.out]
    go_enter Try.func73, Try.ntmps73
    go_wp2
    go_ret
    exact ⟨rfl, rfl⟩
theorem vquorum_any (n : Int) (hn : n ≤ 9223372036854775807) (w : World) : Calls Try.prog 49 #[.int .i64 n] w fun e w' => e = .returned (.int .i64 (quoZ n)) ∧ w' = w := by
  have HC : Hid (∀ u : World, Calls Try.prog 73 #[.int .i64 n] u fun e w' => e = .returned (.int .i64 (fltZ n)) ∧ w' = u) := hid (vfaults_any n hn)
  by_cases h : n < 1
  · rw [quoZ_lo h]
    go_enter Try.func49, Try.ntmps49
    go_wp2
    go_ret
    exact ⟨rfl, rfl⟩
  · rw [quoZ_hi h]
    have hf := fltZ_le h
    generalize fltZ n = f at HC hf ⊢
    have h1 : 0 ≤ f := hf.1
    have h2 : f ≤ 4000000000000000000 := by omega
    have HQ : Hid ((n + f) / 2 + 1 = n / 2 + (n % 2 + f % 2) / 2 + f / 2 + 1) := hid (by omega)
    rw [HQ.out]
    clear hf
    go_enter Try.func49, Try.ntmps49
    go_wp2_with (go_at_call 73; refine (HC.out _).mono ?_; rintro e wx ⟨rfl, rfl⟩)
    go_ret
    exact ⟨rfl, rfl⟩
end Go.Proofs.Ytchlmcpnjpllnaa
