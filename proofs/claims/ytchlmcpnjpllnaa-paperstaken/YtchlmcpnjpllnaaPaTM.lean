/- Which certificates of a quorum are taken, and which are not. No walk here. -/
import Derived.Test.YtchlmcpnjpllnaaPaSM
import Derived.Test.YtchlmcpnjpllnaaX11
namespace Go.Proofs.Ytchlmcpnjpllnaa
open Go.RowKit

theorem gsigN_size (seed : ByteArray) (h leaf : Nat) (t : ByteArray) (hl : leaf < 2 ^ h) : (gsigS seed h leaf t).size = 561 + 32 * h := by
  rw [gsigS, mk_size, gsign_len seed h leaf t hl]
/-- The signatures of the first k. -/
def sgsG (seed T : ByteArray) : Nat → List (Int × ByteArray)
  | 0 => []
  | j + 1 => sgsG seed T j ++ [((j : Int), gsigS (sdS seed j) 3 0 T)]
def seatF (seed : ByteArray) (i : Nat) : Int × ByteArray := ((i : Int), rootS (sdS seed i) 3)
def sigF (seed T : ByteArray) (i : Nat) : Int × ByteArray := ((i : Int), gsigS (sdS seed i) 3 0 T)
theorem seatsG_map (seed : ByteArray) : ∀ n, seatsG seed n = (List.range n).map (seatF seed)
  | 0 => rfl
  | n + 1 => by rw [seatsG, seatsG_map seed n, List.range_succ, List.map_append]; rfl
theorem sgsG_map (seed T : ByteArray) : ∀ n, sgsG seed T n = (List.range n).map (sigF seed T)
  | 0 => rfl
  | n + 1 => by rw [sgsG, sgsG_map seed T n, List.range_succ, List.map_append]; rfl
theorem sgsG_len (seed T : ByteArray) (n : Nat) : (sgsG seed T n).length = n := by rw [sgsG_map]; simp
theorem at_of {ps : List (Int × ByteArray)} {i : Nat} {p : Int × ByteArray} (h : ps[i]? = some p) : idOf ps i = p.1 ∧ rtOf ps i = p.2 := by
  unfold idOf rtOf
  rw [List.getD_eq_getElem?_getD, h]
  exact ⟨rfl, rfl⟩
theorem seat_at (seed : ByteArray) (n i : Nat) (h : i < n) : (seatsG seed n)[i]? = some (seatF seed i) := by rw [seatsG_map]; simp [h]
theorem sig_at (seed T : ByteArray) (n i : Nat) (h : i < n) : (sgsG seed T n)[i]? = some (sigF seed T i) := by rw [sgsG_map]; simp [h]
theorem okPTo_all (ps : List (Int × ByteArray)) : ∀ n, (∀ i, i < n → okPAt ps i = true) → okPTo ps n = true
  | 0, _ => rfl
  | n + 1, h => by rw [okPTo_succ, okPTo_all ps n (fun i hi => h i (by omega)), h n (by omega)]; rfl
theorem okSTo_all (ss : List (Int × ByteArray)) : ∀ n, (∀ i, i < n → okS ss i = true) → okSTo ss n = true
  | 0, _ => rfl
  | n + 1, h => by rw [okSTo_succ, okSTo_all ss n (fun i hi => h i (by omega)), h n (by omega)]; rfl
theorem okGTo_all (ps : List (Int × ByteArray)) (T : ByteArray) (ss : List (Int × ByteArray)) : ∀ n, (∀ i, i < n → okG ps T ss i = true) → okGTo ps T ss n = true
  | 0, _ => rfl
  | n + 1, h => by rw [okGTo_succ, okGTo_all ps T ss n (fun i hi => h i (by omega)), h n (by omega)]; rfl
/-- Papers of groves are right. -/
theorem seatsG_right (seed : ByteArray) (E n : Nat) (hE : E ≤ 65535) (hn : 4 ≤ n ∧ n ≤ 10) : rightP (E : Int) (seatsG seed n) = true := by
  rw [rightP, seatsG_len, decide_eq_true (show (0 : Int) ≤ (E : Int) ∧ (E : Int) ≤ 65535 by omega), decide_eq_true hn, okPTo_all _ _ (fun i hi => ?_)]
  · rfl
  · have h1 := at_of (seat_at seed n i hi)
    cases i with
    | zero => exact okPAt_yes0 _ (by rw [h1.1]; simp [seatF]) (by rw [h1.2]; exact rootS_size _ _)
    | succ i =>
      have h2 := at_of (seat_at seed n i (by omega))
      refine okPAt_yes _ (i + 1) (by rw [h1.1]; simp [seatF]; omega) (by rw [h1.2]; exact rootS_size _ _) ?_
      rw [h1.1, show i + 1 - 1 = i from rfl, h2.1]
      simp [seatF]
      omega
theorem seatsG_seat (seed : ByteArray) (n i : Nat) (hi : i < n) : seatB (seatsG seed n) (i : Int) = true ∧ seatS (seatsG seed n) (i : Int) = rootS (sdS seed i) 3 := by
  have h1 := at_of (seat_at seed n i hi)
  have h := seatP_some (ps := seatsG seed n) (id := (i : Int)) i (by rw [seatsG_len]; exact hi) (fun k hk => by rw [(at_of (seat_at seed n k (by omega))).1]; simp [seatF]; omega) h1.1
  rw [seatB, seatS, h, h1.2]
  exact ⟨rfl, rfl⟩
/-- The i-th signature is good, whatever stands ahead of it has a lower number. -/
theorem okG_sig (seed T : ByteArray) (n : Nat) (ss : List (Int × ByteArray)) (i k : Nat) (hk : k < n) (h : ss[i]? = some (sigF seed T k)) (h0 : i = 0 ∨ idOf ss (i - 1) < (k : Int)) : okG (seatsG seed n) T ss i = true := by
  have h1 := at_of h
  rw [okG, h1.1, h1.2]
  show (seatB (seatsG seed n) (k : Int) && ((decide (i = 0) || decide (idOf ss (i - 1) < (k : Int))) && takenB (seatS (seatsG seed n) (k : Int)) 3 T (gsigS (sdS seed k) 3 0 T))) = true
  rw [(seatsG_seat seed n k hk).1, (seatsG_seat seed n k hk).2, show takenB (rootS (sdS seed k) 3) 3 T (gsigS (sdS seed k) 3 0 T) = true from taken_sign (sdS seed k) 3 0 T (by decide) (by decide)]
  rcases h0 with h0 | h0
  · rw [decide_eq_true h0]; rfl
  · rw [decide_eq_true h0]; simp
theorem okS_sig (seed T : ByteArray) (ss : List (Int × ByteArray)) (i k : Nat) (hk : k < 200) (h : ss[i]? = some (sigF seed T k)) : okS ss i = true := by
  have h1 := at_of h
  rw [okS, h1.1, h1.2]
  refine decide_eq_true ⟨by simp [sigF], by simp [sigF]; omega, ?_⟩
  show (gsigS (sdS seed k) 3 0 T).size ≤ 65535
  rw [gsigN_size _ _ _ _ (by decide)]
  decide
/-- Signatures in order, from the a-th on. -/
theorem drop_at (seed T : ByteArray) (q a i : Nat) (h : a + i < q) : ((sgsG seed T q).drop a)[i]? = some (sigF seed T (a + i)) := by rw [List.getElem?_drop]; exact sig_at seed T q (a + i) h
theorem cert_ok (seed T : ByteArray) (E : Nat) (ps : List (Int × ByteArray)) (hr : rightP (E : Int) ps = true) (ss : List (Int × ByteArray)) (hl : ss.length ≤ 16) (h : ∀ i, i < ss.length → ∃ k, k < 200 ∧ ss[i]? = some (sigF seed T k)) : certE (E : Int) ps ss = 0 := by
  rw [certE, hr, okSTo_all ss _ (fun i hi => by obtain ⟨k, hk, hs⟩ := h i hi; exact okS_sig seed T ss i k hk hs)]
  simp
  omega
theorem chk_open (ep E : Int) (old ps ss : List (Int × ByteArray)) (hr : rightP ep old = true) (hc : certE E ps ss = 0) :
    chkE ep old (certS E ps ss) = if E ≠ ep + 1 then 12 else if okGTo old (bytesS E ps) ss ss.length = false then 16 else if (ss.length : Int) < quoZ (old.length : Int) then 15 else 0 := by
  obtain ⟨h1, h2, h3, h4, h5⟩ := open_cert E ps ss hc
  rw [chkE, hr, h1, h2, h4, h5]
  simp
theorem chk_paper (ep E : Int) (old ps ss : List (Int × ByteArray)) (hc : certE E ps ss = 0) (h : chkE ep old (certS E ps ss) = 0) : chkZ ep old (certS E ps ss) = E ∧ chkP ep old (certS E ps ss) = ps := by
  obtain ⟨h1, h2, h3, h4, h5⟩ := open_cert E ps ss hc
  rw [chkZ, if_pos h, chkP, if_pos h]
  exact ⟨h2, h3⟩
theorem quo_four (n : Nat) (h : 4 ≤ n ∧ n ≤ 7) : ∃ Q : Nat, quoZ (n : Int) = (Q : Int) ∧ 3 ≤ Q ∧ Q ≤ 5 ∧ Q ≤ n := by
  have h0 : ¬ ((n : Int) < 1) := by omega
  refine ⟨(quoZ (n : Int)).toNat, ?_, ?_, ?_, ?_⟩ <;> rw [quoZ_hi h0, fltZ_hi h0] <;> omega
/-- The first becomes the last. -/
def turnG (seed T : ByteArray) (q : Nat) : List (Int × ByteArray) := (sgsG seed T q).drop 1 ++ [sigF seed T 0]
theorem turnG_len (seed T : ByteArray) (q : Nat) (hq : 1 ≤ q) : (turnG seed T q).length = q := by
  rw [turnG, List.length_append, List.length_drop, sgsG_len]
  simp
  omega
theorem turn_at (seed T : ByteArray) (q i : Nat) (h : i + 1 < q) : (turnG seed T q)[i]? = some (sigF seed T (1 + i)) := by
  rw [turnG, List.getElem?_append_left (by rw [List.length_drop, sgsG_len]; omega)]
  exact drop_at seed T q 1 i (by omega)
theorem turn_last (seed T : ByteArray) (q : Nat) : (turnG seed T q)[q - 1]? = some (sigF seed T 0) := by
  rw [turnG, List.getElem?_append_right (by rw [List.length_drop, sgsG_len]; omega), List.length_drop, sgsG_len, Nat.sub_self]
  rfl
theorem cert_full (seed sx : ByteArray) (E Q : Nat) (hE : E ≤ 1000) (h3 : 3 ≤ Q) (h5 : Q ≤ 5) (T : ByteArray) : certE ((E + 1 : Nat) : Int) (seatsG sx 4) (sgsG seed T Q) = 0 :=
  cert_ok seed T (E + 1) _ (seatsG_right sx (E + 1) 4 (by omega) (by decide)) _ (by rw [sgsG_len]; omega) (fun i hi => by rw [sgsG_len] at hi; exact ⟨i, by omega, sig_at seed T Q i hi⟩)
theorem cert_less (seed sx : ByteArray) (E Q : Nat) (hE : E ≤ 1000) (h3 : 3 ≤ Q) (h5 : Q ≤ 5) (T : ByteArray) : certE ((E + 1 : Nat) : Int) (seatsG sx 4) ((sgsG seed T Q).drop 1) = 0 :=
  cert_ok seed T (E + 1) _ (seatsG_right sx (E + 1) 4 (by omega) (by decide)) _ (by rw [List.length_drop, sgsG_len]; omega) (fun i hi => by rw [List.length_drop, sgsG_len] at hi; exact ⟨1 + i, by omega, drop_at seed T Q 1 i (by omega)⟩)
theorem cert_turn (seed sx : ByteArray) (E Q : Nat) (hE : E ≤ 1000) (h3 : 3 ≤ Q) (h5 : Q ≤ 5) (T : ByteArray) : certE ((E + 1 : Nat) : Int) (seatsG sx 4) (turnG seed T Q) = 0 :=
  cert_ok seed T (E + 1) _ (seatsG_right sx (E + 1) 4 (by omega) (by decide)) _ (by rw [turnG_len _ _ _ (by omega)]; omega) (fun i hi => by
    rw [turnG_len _ _ _ (by omega)] at hi
    by_cases e : i + 1 < Q
    · exact ⟨1 + i, by omega, turn_at seed T Q i e⟩
    · obtain rfl : i = Q - 1 := by omega
      exact ⟨0, by omega, turn_last seed T Q⟩)
theorem check_full (seed sx : ByteArray) (E n Q : Nat) (hE : E ≤ 1000) (hn : 4 ≤ n ∧ n ≤ 7) (hQ : quoZ (n : Int) = (Q : Int)) (h3 : 3 ≤ Q) (h5 : Q ≤ 5) (hq : Q ≤ n) : chkE (E : Int) (seatsG seed n) (certS ((E + 1 : Nat) : Int) (seatsG sx 4) (sgsG seed (bytesS ((E + 1 : Nat) : Int) (seatsG sx 4)) Q)) = 0 := by
  rw [chk_open _ _ _ _ _ (seatsG_right seed E n (by omega) (by omega)) (cert_full seed sx E Q hE h3 h5 _), sgsG_len, seatsG_len, hQ, okGTo_all _ _ _ _ (fun i hi => okG_sig seed _ n _ i i (by omega) (sig_at seed _ Q i hi) ?_)]
  · simp
  · by_cases e : i = 0
    · exact .inl e
    · exact .inr (by rw [(at_of (sig_at seed _ Q (i - 1) (by omega))).1]; simp [sigF]; omega)
theorem check_less (seed sx : ByteArray) (E n Q : Nat) (hE : E ≤ 1000) (hn : 4 ≤ n ∧ n ≤ 7) (hQ : quoZ (n : Int) = (Q : Int)) (h3 : 3 ≤ Q) (h5 : Q ≤ 5) (hq : Q ≤ n) : chkE (E : Int) (seatsG seed n) (certS ((E + 1 : Nat) : Int) (seatsG sx 4) ((sgsG seed (bytesS ((E + 1 : Nat) : Int) (seatsG sx 4)) Q).drop 1)) = 15 := by
  rw [chk_open _ _ _ _ _ (seatsG_right seed E n (by omega) (by omega)) (cert_less seed sx E Q hE h3 h5 _), List.length_drop, sgsG_len, seatsG_len, hQ, okGTo_all _ _ _ _ (fun i hi => okG_sig seed _ n _ i (1 + i) (by omega) (drop_at seed _ Q 1 i (by omega)) ?_)]
  · have : ((Q - 1 : Nat) : Int) < (Q : Int) := by omega
    simp [this]
  · by_cases e : i = 0
    · exact .inl e
    · exact .inr (by rw [(at_of (drop_at seed _ Q 1 (i - 1) (by omega))).1]; simp [sigF]; omega)
theorem check_turn (seed sx : ByteArray) (E n Q : Nat) (hE : E ≤ 1000) (hn : 4 ≤ n ∧ n ≤ 7) (h3 : 3 ≤ Q) (h5 : Q ≤ 5) : chkE (E : Int) (seatsG seed n) (certS ((E + 1 : Nat) : Int) (seatsG sx 4) (turnG seed (bytesS ((E + 1 : Nat) : Int) (seatsG sx 4)) Q)) = 16 := by
  have hno : okGTo (seatsG seed n) (bytesS ((E + 1 : Nat) : Int) (seatsG sx 4)) (turnG seed (bytesS ((E + 1 : Nat) : Int) (seatsG sx 4)) Q) Q = false := by
    refine okGTo_false _ _ _ (Q - 1 + 1) Q ?_ (by omega)
    rw [okGTo_succ, okG, (at_of (turn_last seed _ Q)).1, (at_of (turn_at seed (bytesS ((E + 1 : Nat) : Int) (seatsG sx 4)) Q (Q - 1 - 1) (by omega))).1, decide_eq_false (show ¬ (Q - 1 = 0) by omega), decide_eq_false (show ¬ ((sigF seed (bytesS ((E + 1 : Nat) : Int) (seatsG sx 4)) (1 + (Q - 1 - 1))).1 < (sigF seed (bytesS ((E + 1 : Nat) : Int) (seatsG sx 4)) 0).1) by simp [sigF]; omega)]
    simp
  rw [chk_open _ _ _ _ _ (seatsG_right seed E n (by omega) (by omega)) (cert_turn seed sx E Q hE h3 h5 _), turnG_len _ _ _ (by omega), hno]
  simp
theorem check_next (seed sx : ByteArray) (E Q : Nat) (hE : E ≤ 1000) (h3 : 3 ≤ Q) (h5 : Q ≤ 5) : chkE ((E + 1 : Nat) : Int) (seatsG sx 4) (certS ((E + 1 : Nat) : Int) (seatsG sx 4) (sgsG seed (bytesS ((E + 1 : Nat) : Int) (seatsG sx 4)) Q)) = 12 := by
  rw [chk_open _ _ _ _ _ (seatsG_right sx (E + 1) 4 (by omega) (by decide)) (cert_full seed sx E Q hE h3 h5 _), if_pos (by omega)]
end Go.Proofs.Ytchlmcpnjpllnaa
