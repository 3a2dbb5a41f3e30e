/- The same signatures, as the document's. -/
import Derived.Test.YtchlmcpnjpllnaaX11
import Derived.Deep.RegionLaw
namespace Go.Proofs.Ytchlmcpnjpllnaa
open Go.RowKit

section
variable {o : Oper} {a : Act} {w : World} {K : Act → World → Prop} {Q : Exit → Act → World → Prop}
/-- A signature behind one's own signatures. -/
theorem owp_app_S (sl x : Operand) (ho : o.op = .call { callee := .builtin .append, args := #[sl, x], argTypes := #[36, 36] }) (B : Nat) (v : Value) (n : Nat) (l : List (Int × ByteArray))
    (hs : a.eval sl = v) (hO : w.ownsRow B 77 2 v n (pC l)) (g : Nat) (y : Int × ByteArray) (hx : a.eval x = .slice (some ⟨g, 0, none⟩) 1 1) (hc0 : w.cell? ⟨g, 0, none⟩ = some (.int .i64 y.1)) (hc1 : w.cell? ⟨g, 1, none⟩ = some (.string y.2)) (hB : B ≤ w.heap.size) (hlen : n + 1 ≤ 1000000)
    (h : ∀ v' w', Hid (w'.ownsRow B 77 2 v' (n + 1) (pC (l ++ [y]))) → Hid (w.grownBy w' v.ownBlock) → K (a.put o.dst v') w') : o.wp Try.prog a w K Q := by
  obtain ⟨i0, hi0, hz0, hz1, hz2⟩ := info_parts Try.info77
  obtain ⟨v', w', hr, h2, h3, h4⟩ := run_append_own (P := Try.prog) w B 36 o.type 77 i0 (.agg #[.int .i64 0, .string ⟨#[]⟩]) 2 24 Try.underlying36 hi0 hz0 hz1 hz2 rfl (by decide) v n (pC l) hO ⟨g, 0, none⟩ 1 1 [.int .i64 y.1, .string y.2] rfl (fun j u hj => by
    match j, hj with
    | 0, hj => simp at hj; subst hj; simpa [Addr.add] using hc0
    | 1, hj => simp at hj; subst hj; simpa [Addr.add] using hc1) (by simp [Value.oneCell']) (by unfold maxLen; omega) (by omega) hB
  refine owp_value (v := v') (w' := w') ?_ (h v' w' (by rw [pC_app]; exact h2) h3)
  simp [execOp, ho, resolve, invoke, builtin, hs, hx, hr, Result.andThen]
end
set_option maxRecDepth 100000 in
set_option maxHeartbeats 3200000 in
theorem alike_any (a : Option Addr) (n cap : Nat) (ss : List (Int × ByteArray)) (hn : ss.length = n) (hm : n ≤ 1000) (w : World) (hP : PairsIn w a ss) :
    Calls Try.prog 17 #[.slice a n cap] w fun e w' => ∃ v, e = .returned v ∧ w'.ownsRow w.heap.size 77 2 v n (pC ss) ∧ Below w.heap.size w w' := by
  have hm2 : (n : Int) ≤ 1000 := by omega
  obtain ⟨i0, hi0, hz0, hz1, hz2⟩ := info_parts Try.info77
  have HP := hid (And.intro hP hn)
  clear hP hn
  go_enter Try.func17, Try.ntmps17
  go_wp2
  go_loopw [3, 4] (fun v i wr => ∃ j : Nat, j ≤ n ∧ i = .int .i64 (j : Int) ∧ wr.ownsRow w.heap.size 77 2 v j (pC (ss.take j)) ∧ Below w.heap.size w wr)
    (fun _ i _ => ((n : Int) - intOf i).toNat)
  case atStart => exact ⟨0, by omega, rfl, ⟨rfl, .inl ⟨rfl, rfl⟩⟩, Below.refl _ _⟩
  case round =>
    obtain ⟨j, hj, rfl, hO⟩ := hrel
    have HO := hid hO
    clear hO
    by_cases hjn : j = n
    · have hj1 : ¬ ((j : Int) < (n : Int)) := by omega
      have hO := HO.out
      rw [hjn, List.take_of_length_le (by rw [HP.out.2]; exact Nat.le_refl _)] at hO
      have HQ := hid hO
      clear hj hjn hO
      go_wp2
      go_ret
      exact ⟨_, rfl, HQ.out⟩
    · have hj1 : (j : Int) < (n : Int) := by omega
      have hj0 : (0 : Int) ≤ (j : Int) := Int.natCast_nonneg _
      have hjl : j < ss.length := by rw [HP.out.2]; omega
      obtain ⟨g, off, rfl, hg, hc0, hc1⟩ := HP.out.1.at j _ (getP_some hjl)
      have HT : Hid (ss.take (j + 1) = ss.take j ++ [(idOf ss j, rtOf ss j)]) := hid (by rw [List.take_add_one, getP_some hjl]; rfl)
      generalize idOf ss j = x at hc0 HT
      generalize rtOf ss j = r at hc1 HT
      have c0 : wr.cell? ⟨g, off + j * 2, none⟩ = some (.int .i64 x) := (HO.out.2.cell (p := ⟨g, off + j * 2, none⟩) hg).trans hc0
      have c1 : wr.cell? ⟨g, off + j * 2 + 1, none⟩ = some (.string r) := (HO.out.2.cell (p := ⟨g, off + j * 2 + 1, none⟩) hg).trans hc1
      have HN : Hid (j + 1 ≤ 1000000) := hid (by omega)
      have HJ := hid (And.intro hj hjn)
      have HC : Hid ((wr.alloc (.cells #[.int .i64 x, .string r] 77)).heap[wr.heap.size]? = some (.cells #[.int .i64 x, .string r] 77 (0, 0))) := hid (heap_alloc_last wr _)
      clear hj hjn hjl hg hc0 hc1 hm
      have HOa : Hid (∀ o : Obj, (wr.alloc o).ownsRow w.heap.size 77 2 u3 j (pC (ss.take j))) := hid (fun o => HO.out.1.alloc o)
      go_wp2_with fail
      go_region_law
        (refine step_of rfl (owp_app_S _ _ rfl w.heap.size u3 _ (ss.take j) rfl (by exact HOa.out _) wr.heap.size (x, r) rfl (by exact (cell_two HC.out).1) (by exact (cell_two HC.out).2) (by have := HO.out.2.size; simp; omega) HN.out ?_); intro v6 w6 h6 g6)
      all_goals
        have H6 := hid (And.intro h6.out (((HO.out.2.alloc HO.out.2.size _).drew).grown g6.out (by have := HO.out.2.size; simp; omega) (fun k hk => (HO.out.1.lt k hk).1)))
        clear h6 g6
      all_goals go_wp2
      all_goals
        go_roundw
        case rel => exact ⟨j + 1, by have := HJ.out; omega, by go_num, by rw [HT.out]; exact H6.out⟩
        case measure => simp [intOf]; omega
end Go.Proofs.Ytchlmcpnjpllnaa
