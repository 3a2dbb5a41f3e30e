/- The program's texts of what is signed: of what is prepared, of a state. -/
import Derived.Test.YtpgfdnmlkaoigaaDtD
import Derived.Test.YtpgfdnmlkaoigaaBaC
namespace Go.Proofs.Ytpgfdnmlkaoigaa
open Go.RowKit

/-- Are all numbers Longs? Their bytes, one behind the other. -/
def sgB (l : List Int) : Bool := l.all (inR 4 ·)
def sgL (l : List Int) : List UInt8 := l.flatMap (fun x => be 4 x.toNat)
def sgT (m : Nat) (l : List Int) (x : ByteArray) : ByteArray := if sgB l then ⟨(be 1 m ++ sgL l).toArray⟩ ++ x else ⟨#[]⟩
def sgE (l : List Int) : Int := if sgB l then 0 else 1
theorem sg_get {l : List Int} {j : Nat} (h : j < l.length) : l[j]? = some (l.getD j 0) := by simp [h]
theorem sgL_snoc (l : List Int) (j : Nat) (hj : j < l.length) : sgL (l.take (j + 1)) = sgL (l.take j) ++ be 4 (l.getD j 0).toNat := by
  rw [List.take_add_one, sg_get hj, sgL, List.flatMap_append]
  simp [sgL]
theorem sgB_snoc (l : List Int) (j : Nat) (hj : j < l.length) : sgB (l.take (j + 1)) = (sgB (l.take j) && inR 4 (l.getD j 0)) := by
  rw [List.take_add_one, sg_get hj, sgB, List.all_append]
  simp [sgB]
theorem sgB_at {l : List Int} (h : sgB l = true) (j : Nat) (hj : j < l.length) : inR 4 (l.getD j 0) = true := by
  rw [sgB, List.all_eq_true] at h
  exact h _ (List.mem_of_getElem? (sg_get hj))
theorem sgL_len (l : List Int) : (sgL l).length = 4 * l.length := by
  induction l with
  | nil => rfl
  | cons x l ih =>
    rw [sgL, List.flatMap_cons, List.length_append, be_len, List.length_cons]
    rw [sgL] at ih
    omega
theorem wl_len (lim : Int) (l : List UInt8) (er n : Int) : (wL lim l er 4 n).length ≤ l.length + 4 := by
  rw [wL]
  split
  · rw [List.length_append, be_len]
    omega
  · omega
theorem we_er (lim : Int) (l : List UInt8) (er n : Int) (h : er ≠ 0 ∨ inR 4 n = false) : wE lim l er 4 n ≠ 0 := by
  rw [wE]
  unfold adm
  split
  · next h1 =>
    rcases h with h | h
    · exact absurd h1 h
    · rw [h]
      simp
  · next h1 => exact h1
set_option maxRecDepth 100000 in
set_option maxHeartbeats 6400000 in
theorem dsign_any (m : Nat) (hm : m < 256) (x : ByteArray) (hx : x.size ≤ 140737488355328) (a : Option Addr) (n cap : Nat) (l : List Int) (hn : l.length = n) (h3 : n ≤ 3) (hr : ∀ j, j < l.length → l.getD j 0 ≤ 9223372036854775807) (w : World) (hI : IntsIn w a l) :
    Calls Try.prog 62 #[.int .i64 (m : Int), .string x, .slice a n cap] w fun e w' => e = .returned (.tuple #[.string (sgT m l x), .int .i64 (sgE l)]) ∧ Below w.heap.size w w' := by
  have HI := hid hI
  have HN := hid hn
  have HM := hid hm
  have HR := hid hr
  have hn1 : (n : Int) ≤ 3 := by omega
  have hn0 : (0 : Int) ≤ (n : Int) := Int.natCast_nonneg _
  have H3 := hid h3
  have HLm : Hid (0 ≤ 1 + 4 * (n : Int) ∧ 1 + 4 * (n : Int) ≤ 4294967296 ∧ 1 ≤ 1 + 4 * (n : Int)) := hid (by omega)
  clear hI hn hm hr h3
  cases hB : sgB l with
  | true =>
    rw [show sgT m l x = ⟨(be 1 m ++ sgL l).toArray⟩ ++ x by rw [sgT, hB]; rfl, show sgE l = 0 by rw [sgE, hB]; rfl]
    have HB := hid hB
    have HX := hid hx
    clear hB hx
    go_enter Try.func62, Try.ntmps62
    go_wp2_with (first
      | (go_at_call 32; refine (pwnew _ (by exact HLm.out.1) _).mono ?_; rintro e w1 ⟨rfl, h1⟩; have T0 := hid h1; clear h1)
      | (go_at_call 33; refine (pwbyte _ (by exact HLm.out.1) (by exact HLm.out.2.1) _ _ _ [] m (by exact HM.out) (by exact HLm.out.2.2) (by exact T0.out)).mono ?_; rintro e w2 ⟨rfl, h2⟩; have T1 := hid h2; clear h2))
    clear T0
    go_loopw [23] (fun i wr => ∃ j : Nat, j ≤ n ∧ i = .int .i64 (j : Int) ∧ PwAt (1 + 4 * (n : Int)) w.heap.size w wr (be 1 m ++ sgL (l.take j)))
      (fun i _ => ((n : Int) - intOf i).toNat)
    case atStart => exact ⟨0, by omega, rfl, by rw [List.take_zero, show sgL [] = [] from rfl, List.append_nil]; exact T1.out⟩
    case round =>
      obtain ⟨j, hj, rfl, hO⟩ := hrel
      have HO := hid hO
      clear hO
      by_cases hjn : j = n
      · have hj1 : ¬ ((j : Int) < (n : Int)) := by omega
        have HE : Hid (PwAt (1 + 4 * (n : Int)) w.heap.size w wr (be 1 m ++ sgL l)) := hid (by
          have := HO.out
          rw [hjn, List.take_of_length_le (by rw [HN.out]; exact Nat.le_refl _)] at this
          exact this)
        have HXn : Hid (∀ k, k = (be 1 m).length + (sgL l).length + x.size → k ≤ 9223372036854775807) := hid (by intro k hk; rw [be_len, sgL_len, HN.out] at hk; have := HX.out; have := H3.out; omega)
        clear hj hjn
        obtain ⟨SL, eS⟩ : ∃ SL, SL = sgL l := ⟨_, rfl⟩
        rw [← eS] at HE HXn
        have HSL := hid eS
        clear eS
        go_wp2_with (go_at_call 38; refine (pwdone _ _ _ _ _ (by exact HE.out)).mono ?_; rintro e wx ⟨rfl, hd⟩; have HD := hid hd; clear hd)
        · rename_i h; exact absurd h (Nat.not_lt.mpr (HXn.out _ (by omega)))
        go_ret2
        exact ⟨by rw [← HSL.out]; rfl, HD.out⟩
      · have hj1 : (j : Int) < (n : Int) := by omega
        have hj0 : (0 : Int) ≤ (j : Int) := Int.natCast_nonneg _
        have hjl : j < l.length := by rw [HN.out]; omega
        have hrg := inR4 (sgB_at HB.out j hjl)
        have HS := hid (sgL_snoc l j hjl)
        obtain ⟨g, off, rfl, hg, hcell⟩ := HI.out.at j _ (sg_get hjl)
        generalize l.getD j 0 = y at hrg HS hcell
        obtain ⟨X, rfl⟩ : ∃ X : Nat, y = (X : Int) := ⟨y.toNat, by omega⟩
        rw [Int.toNat_natCast] at HS
        have cz : wr.cell? ⟨g, off + j, none⟩ = some (.int .i64 (X : Int)) := (HO.out.2.cell (p := ⟨g, off + j, none⟩) hg).trans hcell
        have HXx : Hid (X < 4294967296 ∧ ((be 1 m ++ sgL (l.take j)).length : Int) + 4 ≤ 1 + 4 * (n : Int)) := hid ⟨by omega, by rw [List.length_append, be_len, sgL_len, List.length_take]; omega⟩
        have HJ := hid (And.intro hj hjn)
        clear hj hjn hjl hrg hg hcell
        go_wp2_with (go_at_call 34; refine (pwlong _ (by exact HLm.out.1) (by exact HLm.out.2.1) _ _ _ (be 1 m ++ sgL (l.take j)) X (by exact HXx.out.1) (by exact HXx.out.2) (by exact HO.out)).mono ?_; rintro e w6 ⟨rfl, h6⟩; have H6 := hid h6; clear h6)
        go_roundw
        case rel => exact ⟨j + 1, by have := HJ.out; omega, by go_num, by rw [HS.out, ← List.append_assoc]; exact H6.out⟩
        case measure => simp [intOf]; omega
  | false =>
    rw [show sgT m l x = ⟨#[]⟩ by rw [sgT, hB]; rfl, show sgE l = 1 by rw [sgE, hB]; rfl]
    have HB := hid hB
    clear hB hx
    go_enter Try.func62, Try.ntmps62
    go_wp2_with (first
      | (go_at_call 32; refine (pwnew _ (by exact HLm.out.1) _).mono ?_; rintro e w1 ⟨rfl, h1⟩; have T0 := hid h1; clear h1)
      | (go_at_call 33; refine (pwbyte _ (by exact HLm.out.1) (by exact HLm.out.2.1) _ _ _ [] m (by exact HM.out) (by exact HLm.out.2.2) (by exact T0.out)).mono ?_; rintro e w2 ⟨rfl, h2⟩; have T1 := hid h2; clear h2))
    clear T0
    go_loopw [23] (fun i wr => ∃ (j : Nat) (L : List UInt8) (er : Int), j ≤ n ∧ i = .int .i64 (j : Int) ∧ PeAt (1 + 4 * (n : Int)) w.heap.size w wr L er ∧ L.length ≤ 1 + 4 * j ∧ (sgB (l.take j) = false → er ≠ 0))
      (fun i _ => ((n : Int) - intOf i).toNat)
    case atStart => exact ⟨0, [] ++ be 1 m, 0, by omega, rfl, T1.out.pe, by rw [List.nil_append, be_len]; omega, fun h => by rw [List.take_zero] at h; cases h⟩
    case round =>
      obtain ⟨j, L, er, hj, rfl, hO, hL, hE⟩ := hrel
      have HO := hid hO
      have HE := hid (And.intro hL hE)
      clear hO hL hE
      by_cases hjn : j = n
      · have hj1 : ¬ ((j : Int) < (n : Int)) := by omega
        have HEr : Hid (er ≠ 0) := hid (HE.out.2 (by rw [hjn, List.take_of_length_le (by rw [HN.out]; exact Nat.le_refl _)]; exact HB.out))
        have heb : (er != 0) = true := by simpa using HEr.out
        clear hj hjn
        go_wp2_with (go_at_call 38; refine (pedone _ _ _ _ _ _ (by exact HEr.out) (by exact HO.out)).mono ?_; rintro e wx ⟨rfl, hd⟩; have HD := hid hd; clear hd)
        go_ret2
        exact ⟨rfl, HD.out⟩
      · have hj1 : (j : Int) < (n : Int) := by omega
        have hj0 : (0 : Int) ≤ (j : Int) := Int.natCast_nonneg _
        have hjl : j < l.length := by rw [HN.out]; omega
        have hrg := HR.out j hjl
        have HS := hid (sgB_snoc l j hjl)
        obtain ⟨g, off, rfl, hg, hcell⟩ := HI.out.at j _ (sg_get hjl)
        generalize l.getD j 0 = y at hrg HS hcell
        have cz : wr.cell? ⟨g, off + j, none⟩ = some (.int .i64 y) := (HO.out.2.cell (p := ⟨g, off + j, none⟩) hg).trans hcell
        have HXx : Hid (y ≤ 9223372036854775807 ∧ L.length ≤ 4294967296) := hid ⟨hrg, by have := HE.out.1; have := H3.out; omega⟩
        have HJ := hid (And.intro hj hjn)
        clear hj hjn hjl hrg hg hcell
        go_wp2_with (go_at_call 34; refine (pelong _ (by exact HLm.out.1) (by exact HLm.out.2.1) _ _ _ L er y (by exact HXx.out.1) (by exact HXx.out.2) (by exact HO.out)).mono ?_; rintro e w6 ⟨rfl, h6⟩; have H6 := hid h6; clear h6)
        go_roundw
        case rel => exact ⟨j + 1, _, _, by have := HJ.out; omega, by go_num, H6.out, by have := wl_len (1 + 4 * (n : Int)) L er y; have := HE.out.1; omega, fun h => by
          rw [HS.out, Bool.and_eq_false_iff] at h
          exact we_er _ _ _ _ (h.imp_left HE.out.2)⟩
        case measure => simp [intOf]; omega
theorem ints_new (w : World) (l : List Int) (t : TypeId) : IntsIn (w.alloc (.cells (l.map (Value.int .i64)).toArray t)) (some ⟨w.heap.size, 0, none⟩) l :=
  .inr ⟨w.heap.size, 0, rfl, by simp, fun j z hz => by
    rw [Nat.zero_add]
    exact cell_at (heap_alloc_last w _) j _ (by rw [List.getElem?_map, hz]; rfl)⟩
theorem sg_three (e v s : Int) : sgB [e, v, s] = spB e v s := by simp [sgB, spB, Bool.and_assoc]
set_option maxRecDepth 100000 in
set_option maxHeartbeats 6400000 in
theorem dprepared_any (e v s : Int) (hi : e ≤ 9223372036854775807 ∧ v ≤ 9223372036854775807 ∧ s ≤ 9223372036854775807) (r : Rq) (hb : r.b < 18446744073709551616) (w : World) : Calls Try.prog 28 #[.int .i64 e, .int .i64 v, .int .i64 s, .agg #[.int .i64 r.c, .int .i64 r.st, .int .i64 r.k, .string r.key, .float .f64 r.b, .int .i64 r.id]] w fun e' w' => e' = .returned (.tuple #[.string (prT e v s r), .int .i64 (prE e v s r)]) ∧ Below w.heap.size w w' := by
  have H0 : Hid (RqAt (w.alloc (.cells #[.int .i64 r.c, .int .i64 r.st, .int .i64 r.k, .string r.key, .float .f64 r.b, .int .i64 r.id] 30)) w.heap.size r ∧ Below w.heap.size w (w.alloc (.cells #[.int .i64 r.c, .int .i64 r.st, .int .i64 r.k, .string r.key, .float .f64 r.b, .int .i64 r.id] 30))) := hid ⟨heap_alloc_last w _, (Below.refl w.heap.size w).alloc (Nat.le_refl _) _⟩
  have HTx : Hid (∀ u, Calls Try.prog 11 #[.agg #[.int .i64 r.c, .int .i64 r.st, .int .i64 r.k, .string r.key, .float .f64 r.b, .int .i64 r.id]] u fun e w' => e = .returned (.tuple #[.string (rqT r), .int .i64 (rqE r)]) ∧ Below u.heap.size u w') := hid (fun u => dtext_any r hb u)
  have HSz := hid (rqT_size r)
  have HSg : Hid (rqE r = 0 → sgT 80 [e, v, s] (rqT r) = prT e v s r ∧ sgE [e, v, s] = prE e v s r) := hid (fun hE => by
    rw [sgT, sgE, prT, prE, if_pos hE, if_pos hE, sg_three]
    refine ⟨?_, rfl⟩
    cases spB e v s with
    | false => rfl
    | true =>
      apply ByteArray.ext
      apply Array.ext'
      rw [if_pos rfl, if_pos rfl, add_texts]
      simp [sgL, prL])
  have HI : Hid (∀ j, j < [e, v, s].length → [e, v, s].getD j 0 ≤ 9223372036854775807) := hid (fun j hj => by
    match j, hj with
    | 0, _ => exact hi.1
    | 1, _ => exact hi.2.1
    | 2, _ => exact hi.2.2)
  clear hb hi
  by_cases hE : rqE r = 0
  · obtain ⟨h1, h2⟩ := HSg.out hE
    rw [← h1, ← h2]
    rw [hE] at HTx
    clear h1 h2 HSg hE
    generalize rqT r = T at HTx HSz ⊢
    go_enter Try.func28, Try.ntmps28
    go_wp2_with (first
      | (go_at_call 11; refine (HTx.out _).mono ?_; rintro e w1 ⟨rfl, hb1⟩; have H1 := hid (H0.out.2.trans (hb1.mono H0.out.2.size)); clear hb1)
      | (go_at_call 62; refine (dsign_any 80 (by decide) T (Nat.le_trans HSz.out (by decide)) _ 3 3 [e, v, s] rfl (by decide) (by exact HI.out) _ (by exact ints_new w1 [e, v, s] _)).mono ?_; rintro e w2 ⟨rfl, hb2⟩; have H2 := hid ((H1.out.alloc H1.out.size _).trans (hb2.mono (by simp; have := H1.out.size; omega))); clear hb2))
    go_ret2
    exact ⟨rfl, H2.out⟩
  · rw [show prT e v s r = ⟨#[]⟩ by rw [prT, if_neg hE], show prE e v s r = 1 by rw [prE, if_neg hE]]
    have heb : (rqE r != 0) = true := by simpa using hE
    clear hE HSg HSz HI
    generalize rqT r = T at HTx
    generalize rqE r = E at HTx heb
    go_enter Try.func28, Try.ntmps28
    go_wp2_with (go_at_call 11; refine (HTx.out _).mono ?_; rintro e w1 ⟨rfl, hb1⟩; have H1 := hid (H0.out.2.trans (hb1.mono H0.out.2.size)); clear hb1)
    go_ret2
    exact ⟨rfl, H1.out⟩
set_option maxRecDepth 100000 in
set_option maxHeartbeats 6400000 in
theorem dstate_any (slot : Int) (hi : slot ≤ 9223372036854775807) (x : ByteArray) (hx : x.size ≤ 140737488355328) (w : World) : Calls Try.prog 30 #[.int .i64 slot, .string x] w fun e' w' => e' = .returned (.tuple #[.string (stT slot x), .int .i64 (stE slot)]) ∧ Below w.heap.size w w' := by
  have h1 : sgT 83 [slot] x = stT slot x := by
    rw [sgT, stT, show sgB [slot] = inR 4 slot by simp [sgB]]
    cases inR 4 slot with
    | false => rfl
    | true =>
      apply ByteArray.ext
      apply Array.ext'
      rw [if_pos rfl, if_pos rfl, add_texts]
      simp [sgL]
  have h2 : sgE [slot] = stE slot := by rw [sgE, stE, show sgB [slot] = inR 4 slot by simp [sgB]]
  rw [← h1, ← h2]
  have HX := hid hx
  have HI : Hid (∀ j, j < [slot].length → [slot].getD j 0 ≤ 9223372036854775807) := hid (fun j hj => by
    match j, hj with
    | 0, _ => exact hi)
  clear h1 h2 hx hi
  go_enter Try.func30, Try.ntmps30
  go_wp2_with (go_at_call 62; refine (dsign_any 83 (by decide) x HX.out _ 1 1 [slot] rfl (by decide) (by exact HI.out) _ (by exact ints_new w [slot] _)).mono ?_; rintro e w2 ⟨rfl, hb2⟩; have H2 := hid (((Below.refl w.heap.size w).alloc (Nat.le_refl _) _).trans (hb2.mono (by simp))); clear hb2)
  go_ret2
  exact ⟨rfl, H2.out⟩
end Go.Proofs.Ytpgfdnmlkaoigaa
