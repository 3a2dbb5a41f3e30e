/- The document's tally, votes as data: Add. -/
import Derived.Test.YtclfphffbfdimaaVPdM
namespace Go.Proofs.Ytclfphffbfdimaa
open Go.RowKit

theorem OutP.of_below {D : Nat → Prop} {w w' : World} (h : Below w.heap.size w w') : OutP D w w' := ⟨h.os, h.tape, h.output, h.size, fun k hk _ => h.block k hk⟩
theorem voted_rs {s : Ta} {rs : List Rv} (h : RvOk s rs) (f : Int) : voted s.vs f = true ↔ ∃ r ∈ rs, r.1 = f := by
  rw [voted, h.vs, List.any_map, List.any_eq_true]
  constructor
  · rintro ⟨r, hr, e⟩
    exact ⟨r, hr, of_decide_eq_true e⟩
  · rintro ⟨r, hr, e⟩
    exact ⟨r, hr, decide_eq_true e⟩
theorem waddT_at (D : Nat → Prop) (v : Value) (s : Ta) (rs : List Rv) (hok : RvOk s rs) (f : Int) (t : ByteArray) (ht : t.size ≤ 140737488355328) (b : Option Addr) (k cp : Nat) (nx : List Int) (hk : nx.length = k) (hkm : k ≤ maxLen) (a2 : Option Addr) (n2 c2 : Nat) (sg : List (Int × ByteArray)) (hn2 : sg.length = n2) (hm2 : n2 ≤ maxLen) (hrs : rs.length ≤ 1000) (hml : s.mem.length ≤ 10) (w : World) (h : DtAt D w v s.ep s.mem rs) (hN : IntsIn w b nx) (hP : PairsIn w a2 sg) :
    Calls Try.prog 16 #[v, .int .i64 f, .string t, .slice b k cp, .slice a2 n2 c2] w fun e w' => ∃ D' rs', e = .returned (.int .i64 (addE s f t nx sg)) ∧ DtAt D' w' v s.ep s.mem rs' ∧ RvOk (added s f t nx sg) rs' ∧ (∀ k, D' k → D k ∨ w.heap.size ≤ k) ∧ OutP D w w' := by
  obtain ⟨R, g, am, cm, y, xs, rfl, rfl, h1, h2⟩ := h
  have hxl : xs.length ≤ 1000 := by simpa using hrs
  have hno : ∀ (c : Int), addE s f t nx sg = c → c ≠ 0 → ∀ (e : Ending) (w' : World), e = .returned (.int .i64 c) ∧ Below w.heap.size w w' → ∃ D' rs', e = .returned (.int .i64 (addE s f t nx sg)) ∧ DtAt D' w' (.pointer (some ⟨g, 0, none⟩)) s.ep s.mem rs' ∧ RvOk (added s f t nx sg) rs' ∧ (∀ k, D' k → D k ∨ w.heap.size ≤ k) ∧ OutP D w w' := by
    rintro c hc h0 e w' ⟨he, hb⟩
    exact ⟨D, _, by rw [hc]; exact he, DtAt.keep ⟨R, g, am, cm, y, xs, rfl, rfl, h1, h2⟩ hb, hok.no (by rw [hc]; exact h0), fun k hk => .inl hk, OutP.of_below hb⟩
  cases hv : voB s.ep s.mem t nx with
  | false => exact (waddT_arg R g am cm y s.ep s.mem xs hml f t ht b k cp nx hk hkm a2 n2 c2 sg hn2 hm2 w h1 hN hP hv).mono (hno 1 (by simp [addE, hv]) (by decide))
  | true =>
    cases hm : hasM s.mem f with
    | false => exact (waddT_absent R g am cm y s.ep s.mem xs hml f t ht b k cp nx hk hkm a2 n2 c2 sg hn2 hm2 w h1 hN hP hv hm).mono (hno 8 (by simp [addE, hv, hm]) (by decide))
    | true =>
      by_cases hs : sg = twoS f (voS s.ep s.mem t nx) (voC s.ep s.mem t nx)
      · cases ho : voted s.vs f with
        | true =>
          obtain ⟨r, hr, e⟩ := (voted_rs hok f).1 ho
          obtain ⟨x, hx, rfl⟩ := List.mem_map.1 hr
          exact (waddT_same R g am cm y s.ep s.mem xs hml f t ht b k cp nx hk hkm a2 n2 c2 sg hn2 hm2 w h1 hN hP ⟨x, hx, e⟩ hxl hv hm hs).mono (hno 7 (by rw [addE, if_pos hv, if_pos hm, if_pos hs, if_pos ho]) (by decide))
        | false =>
          have hc : addE s f t nx sg = 0 := by rw [addE, if_pos hv, if_pos hm, if_pos hs, if_neg (by rw [ho]; decide)]
          have hn : ∀ r ∈ xs, r.1.1 ≠ f := fun r hr e => by
            have := (voted_rs hok f).2 ⟨r.1, List.mem_map.2 ⟨r, hr, rfl⟩, e⟩
            rw [ho] at this
            cases this
          refine (waddT_new R g am cm y s.ep s.mem xs hml f t ht b k cp nx hk hkm a2 n2 c2 sg hn2 hm2 w h1 hN hP hn hxl hv hm hs).mono ?_
          rintro e w' ⟨he, R', y', x, hx, hd, hf, hO⟩
          refine ⟨fpD R' g y', xs.map (·.1) ++ [(f, t, nx, sg)], by rw [hc]; exact he, ⟨R', g, am, cm, y', xs ++ [x], rfl, by rw [List.map_append, ← hx]; rfl, hd, fun k => Iff.rfl⟩, hok.add ht hc, fun k hk => (hf k hk).imp (h2 k).2 id, ⟨hO.os, hO.tape, hO.output, hO.size, fun k hk hn => hO.block k hk (fun e => hn ((h2 k).2 e))⟩⟩
      · exact (waddT_sig R g am cm y s.ep s.mem xs hml f t ht b k cp nx hk hkm a2 n2 c2 sg hn2 hm2 w h1 hN hP hv hm hs).mono (hno 16 (by rw [addE, if_pos hv, if_pos hm, if_neg hs]) (by decide))
end Go.Proofs.Ytclfphffbfdimaa
