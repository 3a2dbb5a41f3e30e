/- Texts laid together: VoJ VoS VoL. -/
import Derived.Test.YtclfphffbfdimaaKf1
import Derived.Test.YtclfphffbfdimaaKg1
import Derived.Test.YtclfphffbfdimaaKd1
import Derived.Test.YtclfphffbfdimaaKe1
/- The program's tally: a vote, whatever it is; what is settled, whatever it is. -/
namespace Go.Proofs.Ytclfphffbfdimaa
open Go.RowKit

theorem vadd_any (g m : Nat) (am : Option Addr) (cm : Nat) (s : Ta) (f : Int) (t : ByteArray) (ht : t.size ≤ 140737488355328) (b : Option Addr) (k cp : Nat) (nx : List Int) (hk : nx.length = k) (hkm : k ≤ maxLen) (a2 : Option Addr) (n2 c2 : Nat) (sg : List (Int × ByteArray)) (hn2 : sg.length = n2) (hm2 : n2 ≤ maxLen) (w : World) (h : TlA w g m am cm s) (hN : IntsIn w b nx) (hP : PairsIn w a2 sg) :
    Calls Try.prog 15 #[.pointer (some ⟨g, 0, none⟩), .int .i64 f, .string t, .slice b k cp, .slice a2 n2 c2] w fun e w' => e = .returned (.int .i64 (addE s f t nx sg)) ∧ TlA w' g m am cm (added s f t nx sg) ∧ Out [g, m] w w' := by
  have hlow : ∀ (E : Int), addE s f t nx sg = E → E ≠ 0 → (∀ u : World, Below w.heap.size w u → TlA u g m am cm (added s f t nx sg) ∧ Out [g, m] w u) := fun E hE h0 u hu => by
    rw [added, if_neg (by rw [hE]; exact h0)]
    exact ⟨h.keep hu, Out.of_below hu⟩
  cases h1 : voB s.ep s.mem t nx with
  | false =>
    have hE : addE s f t nx sg = 1 := by rw [addE, h1]; rfl
    rw [hE]
    exact (vadd_arg g m am cm s f t ht b k cp nx hk hkm a2 n2 c2 sg hn2 hm2 w h hN hP h1).mono fun e w' ⟨k1, k2⟩ => ⟨k1, hlow 1 hE (by decide) w' k2⟩
  | true =>
    cases h2 : hasM s.mem f with
    | false =>
      have hE : addE s f t nx sg = 8 := by rw [addE, h1, h2]; rfl
      rw [hE]
      exact (vadd_absent g m am cm s f t ht b k cp nx hk hkm a2 n2 c2 sg hn2 hm2 w h hN hP h1 h2).mono fun e w' ⟨k1, k2⟩ => ⟨k1, hlow 8 hE (by decide) w' k2⟩
    | true =>
      by_cases h3 : sg = twoS f (voS s.ep s.mem t nx) (voC s.ep s.mem t nx)
      · cases h4 : voted s.vs f with
        | true =>
          have hE : addE s f t nx sg = 7 := by rw [addE, h1, h2, if_pos rfl, if_pos rfl, if_pos h3, h4]; rfl
          rw [hE]
          exact (vadd_same g m am cm s f t ht b k cp nx hk hkm a2 n2 c2 sg hn2 hm2 w h hN hP h1 h2 h3 h4).mono fun e w' ⟨k1, k2⟩ => ⟨k1, hlow 7 hE (by decide) w' k2⟩
        | false =>
          have hE : addE s f t nx sg = 0 := by rw [addE, h1, h2, if_pos rfl, if_pos rfl, if_pos h3, h4]; rfl
          have hA : added s f t nx sg = ⟨s.ep, s.mem, s.vs ++ [(f, (t, voC s.ep s.mem t nx))]⟩ := by rw [added, if_pos hE]
          have hok := h.ok.add (f := f) (t := t) ht (nx := nx) (sg := sg)
          rw [hA] at hok
          rw [hE, hA]
          exact vadd_ok g m am cm s f t ht b k cp nx hk hkm a2 n2 c2 sg hn2 hm2 w h hN hP h1 h2 h3 h4 hok
      · have hE : addE s f t nx sg = 16 := by rw [addE, h1, h2, if_pos rfl, if_pos rfl, if_neg h3]
        rw [hE]
        exact (vadd_sig g m am cm s f t ht b k cp nx hk hkm a2 n2 c2 sg hn2 hm2 w h hN hP h1 h2 h3).mono fun e w' ⟨k1, k2⟩ => ⟨k1, hlow 16 hE (by decide) w' k2⟩
/-- A vote, at the tally's blocks. -/
theorem vadd_at (F : List Nat) (v : Value) (s : Ta) (f : Int) (t : ByteArray) (ht : t.size ≤ 140737488355328) (b : Option Addr) (k cp : Nat) (nx : List Int) (hk : nx.length = k) (hkm : k ≤ maxLen) (a2 : Option Addr) (n2 c2 : Nat) (sg : List (Int × ByteArray)) (hn2 : sg.length = n2) (hm2 : n2 ≤ maxLen) (w : World) (h : TlAt F w v s) (hN : IntsIn w b nx) (hP : PairsIn w a2 sg) :
    Calls Try.prog 15 #[v, .int .i64 f, .string t, .slice b k cp, .slice a2 n2 c2] w fun e w' => e = .returned (.int .i64 (addE s f t nx sg)) ∧ TlAt F w' v (added s f t nx sg) ∧ Out F w w' := by
  obtain ⟨g, m, am, cm, rfl, rfl, h⟩ := h
  refine (vadd_any g m am cm s f t ht b k cp nx hk hkm a2 n2 c2 sg hn2 hm2 w h hN hP).mono fun e w' ⟨k1, k2, k3⟩ => ⟨k1, k2.at, ?_⟩
  exact ⟨k3.os, k3.tape, k3.output, k3.size, fun b hb hF => k3.block b hb (fun hm => hF (by
    simp at hm
    rcases hm with rfl | rfl
    · exact mem_fpT.2 (.inl rfl)
    · exact mem_fpT.2 (.inr (.inl rfl))))⟩
theorem vcount_at (F : List Nat) (v : Value) (s : Ta) (w : World) (h : TlAt F w v s) :
    Calls Try.prog 17 #[v] w fun e w' => e = .returned (.int .i64 (s.vs.length : Int)) ∧ Below w.heap.size w w' := by
  obtain ⟨g, m, am, cm, rfl, rfl, h⟩ := h
  exact vcount_any g m am cm s w h
/-- What Settled answers. -/
def SetAns (w : World) (s : Ta) (v : Value) : Prop := if chF s then SetIn w s v else v = NoSet
theorem vsettled_at (F : List Nat) (v : Value) (s : Ta) (w : World) (h : TlAt F w v s) :
    Calls Try.prog 18 #[v] w fun e w' => ∃ r, e = .returned r ∧ SetAns w' s r ∧ Below w.heap.size w w' := by
  obtain ⟨g, m, am, cm, rfl, rfl, h⟩ := h
  cases hf : chF s with
  | true => exact (vsettled_yes g m am cm s w h hf).mono fun e w' ⟨r, k1, k2, k3, _⟩ => ⟨r, k1, by rw [SetAns, if_pos hf]; exact k2, k3⟩
  | false => exact (vsettled_no g m am cm s w h hf).mono fun e w' ⟨k1, k2⟩ => ⟨_, k1, by rw [SetAns, hf]; rfl, k2⟩
end Go.Proofs.Ytclfphffbfdimaa

/- The laws' own: the signatures of a vote. -/
namespace Go.Proofs.Ytclfphffbfdimaa
open Go.RowKit

/-- Signatures in new memory that may be written. -/
def NwP (B : Nat) (w : World) (ad : Option Addr) (l : List (Int × ByteArray)) : Prop := PairsIn w ad l ∧ ∀ x, ad = some x → B ≤ x.block ∧ Free w x.block
theorem NwP.keep {B : Nat} {w w' : World} {ad : Option Addr} {l : List (Int × ByteArray)} (h : NwP B w ad l) (hb : Below w.heap.size w w') : NwP B w' ad l :=
  ⟨h.1.keep hb (Nat.le_refl _), fun x hx => ⟨(h.2 x hx).1, (h.2 x hx).2.keep (hb.block _ (h.2 x hx).2.lt)⟩⟩
def qmark : ByteArray := ⟨#[63]⟩
def sgOf (f : Int) (A C : ByteArray) (k : Int) : List (Int × ByteArray) :=
  if k = 1 then [(f, A ++ qmark), (f, C)] else if k = 2 then [(f, A), (wrap64 (f + 1), C)] else if k = 3 then [(f, A)] else if k = 4 then [(f, A), (f, C), (f, A)] else [(f, A), (f, C)]
theorem two_cells (w : World) (a b c d : Value) : ∀ (u : World), u = w.alloc (.cells #[a, b, c, d] 47) → u.heap[w.heap.size]? = some (.cells #[a, b, c, d] 47 (0, 0)) := fun u hu => by rw [hu]; exact heap_alloc_last w _
theorem pairs4 {w : World} {q : Nat} {x y : Int} {a b : ByteArray} (h : w.heap[q]? = some (.cells #[.int .i64 x, .string a, .int .i64 y, .string b] 47 (0, 0))) : PairsIn w (some ⟨q, 0, none⟩) [(x, a), (y, b)] := by
  refine .inr ⟨q, 0, rfl, lt_of_blk h, fun j p hp => ?_⟩
  match j, hp with
  | 0, hp => cases hp; exact ⟨cell_at (L := [_, _, _, _]) h 0 _ rfl, cell_at (L := [_, _, _, _]) h 1 _ rfl⟩
  | 1, hp => cases hp; exact ⟨cell_at (L := [_, _, _, _]) h 2 _ rfl, cell_at (L := [_, _, _, _]) h 3 _ rfl⟩
  | j + 2, hp => simp at hp
theorem voS_size (ep : Int) (l : List Int) (t : ByteArray) (nx : List Int) (ht : t.size ≤ 140737488355328) : (voS ep l t nx).size + 1 ≤ 281474976710655 := by
  unfold voS
  split
  · unfold stT
    split
    · rw [mk_size]
      simp only [List.length_append, be_len, data_len]
      omega
    · decide
  · decide
theorem pairs1 {w : World} {q : Nat} {x : Int} {a : ByteArray} {c d : Value} (h : w.heap[q]? = some (.cells #[.int .i64 x, .string a, c, d] 47 (0, 0))) : PairsIn w (some ⟨q, 0, none⟩) [(x, a)] := by
  refine .inr ⟨q, 0, rfl, lt_of_blk h, fun j p hp => ?_⟩
  match j, hp with
  | 0, hp => cases hp; exact ⟨cell_at (L := [_, _, _, _]) h 0 _ rfl, cell_at (L := [_, _, _, _]) h 1 _ rfl⟩
  | j + 1, hp => simp at hp
theorem OwnedT.nw {B : Nat} {w0 w : World} {v : Value} {ps : List (Int × ByteArray)} (h : OwnedT B w0 w v ps) : ∃ ad cap, v = .slice ad ps.length cap ∧ NwP B w ad ps := by
  obtain ⟨ad, cap, hv, hp⟩ := own_pairsT h.own
  refine ⟨ad, cap, hv, hp, fun x hx => ?_⟩
  rcases h.own.2 with ⟨hv2, h0⟩ | ⟨g, cap2, cur, hv2, hb, hh, hr⟩
  · rw [hv, hx] at hv2; cases hv2
  · rw [hv, hx] at hv2; cases hv2; exact ⟨hb, _, _, hh⟩
theorem own4 {B : Nat} {w0 w : World} (hb : Below B w0 w) (hB : B ≤ w.heap.size) (f : Int) (A C : ByteArray) : OwnedT B w0 (w.alloc (.cells #[.int .i64 f, .string A, .int .i64 f, .string C] 47)) (.slice (some ⟨w.heap.size, 0, none⟩) 2 2) [(f, A), (f, C)] :=
  ⟨⟨rfl, .inr ⟨w.heap.size, 2, _, rfl, hB, heap_alloc_last w _, Nat.le_refl _, by decide, rfl, rfl⟩⟩, hb.alloc hB _, by simp; omega⟩
theorem pairs6 {w : World} {q : Nat} {x : Int} {a b : ByteArray} {Z : Array Value} (h : w.heap[q]? = some (.cells (#[Value.int .i64 x, Value.string a, Value.int .i64 x, Value.string b] ++ (#[Value.int .i64 x, Value.string a] ++ Z)) 47 (0, 0))) : PairsIn w (some ⟨q, 0, none⟩) [(x, a), (x, b), (x, a)] := by
  obtain ⟨z⟩ := Z
  have h2 : w.heap[q]? = some (.cells ([Value.int .i64 x, Value.string a, Value.int .i64 x, Value.string b, Value.int .i64 x, Value.string a] ++ z).toArray 47 (0, 0)) := by rw [h]; simp
  refine .inr ⟨q, 0, rfl, lt_of_blk h, fun j p hp => ?_⟩
  match j, hp with
  | 0, hp => cases hp; exact ⟨cell_at h2 0 _ rfl, cell_at h2 1 _ rfl⟩
  | 1, hp => cases hp; exact ⟨cell_at h2 2 _ rfl, cell_at h2 3 _ rfl⟩
  | 2, hp => cases hp; exact ⟨cell_at h2 4 _ rfl, cell_at h2 5 _ rfl⟩
  | j + 3, hp => simp at hp
theorem last3 (w : World) (A B C : Obj) : (((w.alloc A).alloc B).alloc C).heap[w.heap.size + 1 + 1]? = some C := by
  have := heap_alloc_last ((w.alloc A).alloc B) C
  simpa using this
/-- What stands when the two signatures are built. -/
structure SvSt (w0 w : World) (q : Nat) (f : Int) (A C : ByteArray) : Prop where
  row : w.heap[q]? = some (.cells #[.int .i64 f, .string A, .int .i64 f, .string C] 47 (0, 0))
  ge : w0.heap.size ≤ q
  bel : Below w0.heap.size w0 w
set_option maxRecDepth 100000 in
set_option maxHeartbeats 3200000 in
theorem usigs_any (f : Int) (t : ByteArray) (ht : t.size ≤ 140737488355328) (b : Option Addr) (k cp : Nat) (nx : List Int) (hk : nx.length = k) (hkm : k ≤ maxLen) (z : Int) (ep : Int) (a : Option Addr) (n cap : Nat) (l : List Int) (hn : l.length = n) (hm : n ≤ maxLen) (w : World) (hI : IntsIn w a l) (hN : IntsIn w b nx) :
    Calls Try.prog 14 #[.agg #[.int .i64 f, .string t, .slice b k cp, .int .i64 z], .agg #[.int .i64 ep, .slice a n cap]] w fun e w' => ∃ ad cd, e = .returned (.slice ad (sgOf f (voS ep l t nx) (voC ep l t nx) z).length cd) ∧ NwP w.heap.size w' ad (sgOf f (voS ep l t nx) (voC ep l t nx) z) ∧ Below w.heap.size w w' := by
  obtain ⟨i0, hi0, hz0, hz1, hz2⟩ := info_parts Try.info47
  obtain ⟨wa, ea⟩ : ∃ wa, wa = (w.alloc (.cells #[.int .i64 f, .string t, .slice b k cp, .int .i64 z] 38)).alloc (.cells #[.int .i64 ep, .slice a n cap] 24) := ⟨_, rfl⟩
  have hba : Below w.heap.size w wa := by rw [ea]; exact ((Below.refl _ _).alloc (Nat.le_refl _) _).alloc (by simp) _
  have hv : wa.heap[w.heap.size]? = some (.cells #[.int .i64 f, .string t, .slice b k cp, .int .i64 z] 38 (0, 0)) := by rw [ea]; exact (Below.heap_alloc _ _ _ (by simp)).trans (heap_alloc_last w _)
  have hc : wa.heap[w.heap.size + 1]? = some (.cells #[.int .i64 ep, .slice a n cap] 24 (0, 0)) := by rw [ea]; exact snd_alloc w _ _
  have HX : Hid (∀ u : World, Below w.heap.size w u → Calls Try.prog 11 #[.agg #[.int .i64 ep, .slice a n cap], .string t, .slice b k cp] u fun e w' => e = .returned (.tuple #[.string (voS ep l t nx), .string (voC ep l t nx), .int .i64 (voE ep l t nx)]) ∧ Below u.heap.size u w') := hid (fun u hu => wtexts_any ep a n cap l hn hm t ht b k cp nx hk hkm u (hI.keep hu (Nat.le_refl _)) (hN.keep hu (Nat.le_refl _)))
  have hsz : wa.heap.size = w.heap.size + 2 := by rw [ea]; simp
  have hA : (voS ep l t nx).size + 1 ≤ 281474976710655 := voS_size ep l t nx ht
  generalize voS ep l t nx = A at HX hA ⊢
  generalize voC ep l t nx = C at HX ⊢
  generalize voE ep l t nx = E at HX
  have HA := hid (And.intro hba (And.intro hv (And.intro hc hsz)))
  have HE := hid ea
  have c0 := (cell_two hc).1
  have c1 := (cell_two hc).2
  have d0 := cell_at (L := [_, _, _, _]) hv 0 _ rfl
  have d1 := cell_at (L := [_, _, _, _]) hv 1 _ rfl
  have d2 := cell_at (L := [_, _, _, _]) hv 2 _ rfl
  have d3 := cell_at (L := [_, _, _, _]) hv 3 _ rfl
  clear ea hba hv hc hI hN
  by_cases h1 : z = 1
  · subst h1
    rw [show sgOf f A C 1 = [(f, A ++ qmark), (f, C)] from rfl]
    go_enter Try.func14, Try.ntmps14
    go_wp2_with (first
      | (go_at_call 11; rw [← HE.out]; refine (HX.out _ HA.out.1).mono ?_; rintro e w1 ⟨rfl, hb1⟩; have H1 := hid (HA.out.1.trans (hb1.mono HA.out.1.size)); have hlt : w.heap.size < w1.heap.size := Nat.lt_of_lt_of_le (by have := HA.out.2.2.2; omega) hb1.size; have x0 : w1.cell? ⟨w.heap.size, 0, none⟩ = some (.int .i64 f) := (hb1.cell (p := ⟨w.heap.size, 0, none⟩) (by have := HA.out.2.2.2; simp; omega)).trans d0; have x3 : w1.cell? ⟨w.heap.size, 3, none⟩ = some (.int .i64 1) := (hb1.cell (p := ⟨w.heap.size, 3, none⟩) (by have := HA.out.2.2.2; simp; omega)).trans d3; have HR : Hid ((w1.alloc (.cells #[.int .i64 f, .string A, .int .i64 f, .string C] 47)).heap[w1.heap.size]? = some (.cells #[.int .i64 f, .string A, .int .i64 f, .string C] 47 (0, 0))) := hid (heap_alloc_last w1 _); clear hb1))
    go_ret
    exact ⟨_, 2, rfl, ⟨pairs4 (heap_alloc_last w1 _), (fun x hx => by cases hx; exact ⟨H1.out.size, _, _, (heap_alloc_last w1 _)⟩)⟩, (H1.out.alloc H1.out.size _)⟩
  by_cases h2 : z = 2
  · subst h2
    rw [show sgOf f A C 2 = [(f, A), (wrap64 (f + 1), C)] from rfl]
    clear h1
    go_enter Try.func14, Try.ntmps14
    go_wp2_with (first
      | (go_at_call 11; rw [← HE.out]; refine (HX.out _ HA.out.1).mono ?_; rintro e w1 ⟨rfl, hb1⟩; have H1 := hid (HA.out.1.trans (hb1.mono HA.out.1.size)); have hlt : w.heap.size < w1.heap.size := Nat.lt_of_lt_of_le (by have := HA.out.2.2.2; omega) hb1.size; have x0 : w1.cell? ⟨w.heap.size, 0, none⟩ = some (.int .i64 f) := (hb1.cell (p := ⟨w.heap.size, 0, none⟩) (by have := HA.out.2.2.2; simp; omega)).trans d0; have x3 : w1.cell? ⟨w.heap.size, 3, none⟩ = some (.int .i64 2) := (hb1.cell (p := ⟨w.heap.size, 3, none⟩) (by have := HA.out.2.2.2; simp; omega)).trans d3; have HR : Hid ((w1.alloc (.cells #[.int .i64 f, .string A, .int .i64 f, .string C] 47)).heap[w1.heap.size]? = some (.cells #[.int .i64 f, .string A, .int .i64 f, .string C] 47 (0, 0))) := hid (heap_alloc_last w1 _); clear hb1))
    go_ret
    exact ⟨_, 2, rfl, ⟨pairs4 (heap_alloc_last w1 _), (fun x hx => by cases hx; exact ⟨H1.out.size, _, _, (heap_alloc_last w1 _)⟩)⟩, (H1.out.alloc H1.out.size _)⟩
  by_cases h3 : z = 3
  · subst h3
    rw [show sgOf f A C 3 = [(f, A)] from rfl]
    clear h1 h2
    go_enter Try.func14, Try.ntmps14
    go_wp2_with (first
      | (go_at_call 11; rw [← HE.out]; refine (HX.out _ HA.out.1).mono ?_; rintro e w1 ⟨rfl, hb1⟩; have H1 := hid (HA.out.1.trans (hb1.mono HA.out.1.size)); have hlt : w.heap.size < w1.heap.size := Nat.lt_of_lt_of_le (by have := HA.out.2.2.2; omega) hb1.size; have x0 : w1.cell? ⟨w.heap.size, 0, none⟩ = some (.int .i64 f) := (hb1.cell (p := ⟨w.heap.size, 0, none⟩) (by have := HA.out.2.2.2; simp; omega)).trans d0; have x3 : w1.cell? ⟨w.heap.size, 3, none⟩ = some (.int .i64 3) := (hb1.cell (p := ⟨w.heap.size, 3, none⟩) (by have := HA.out.2.2.2; simp; omega)).trans d3; have HR : Hid ((w1.alloc (.cells #[.int .i64 f, .string A, .int .i64 f, .string C] 47)).heap[w1.heap.size]? = some (.cells #[.int .i64 f, .string A, .int .i64 f, .string C] 47 (0, 0))) := hid (heap_alloc_last w1 _); clear hb1))
    go_ret
    exact ⟨_, 2, rfl, ⟨pairs1 (heap_alloc_last w1 _), (fun x hx => by cases hx; exact ⟨H1.out.size, _, _, (heap_alloc_last w1 _)⟩)⟩, (H1.out.alloc H1.out.size _)⟩
  by_cases h4 : z = 4
  · subst h4
    rw [show sgOf f A C 4 = [(f, A), (f, C), (f, A)] from rfl]
    clear h1 h2 h3
    go_enter Try.func14, Try.ntmps14
    go_wp2_with (first
      | (go_at_call 11; rw [← HE.out]; refine (HX.out _ HA.out.1).mono ?_; rintro e w1 ⟨rfl, hb1⟩; have H1 := hid (HA.out.1.trans (hb1.mono HA.out.1.size)); have hlt : w.heap.size < w1.heap.size := Nat.lt_of_lt_of_le (by have := HA.out.2.2.2; omega) hb1.size; have x0 : w1.cell? ⟨w.heap.size, 0, none⟩ = some (.int .i64 f) := (hb1.cell (p := ⟨w.heap.size, 0, none⟩) (by have := HA.out.2.2.2; simp; omega)).trans d0; have x3 : w1.cell? ⟨w.heap.size, 3, none⟩ = some (.int .i64 4) := (hb1.cell (p := ⟨w.heap.size, 3, none⟩) (by have := HA.out.2.2.2; simp; omega)).trans d3; have HR : Hid ((w1.alloc (.cells #[.int .i64 f, .string A, .int .i64 f, .string C] 47)).heap[w1.heap.size]? = some (.cells #[.int .i64 f, .string A, .int .i64 f, .string C] 47 (0, 0))) := hid (heap_alloc_last w1 _); have HO := hid (own4 H1.out H1.out.size f A C); clear hb1))
    go_ret
    exact ⟨_, _, rfl, ⟨pairs6 (last3 w1 _ _ _), fun x hx => by cases hx; exact ⟨by have := H1.out.size; show _ ≤ w1.heap.size + 1 + 1; omega, _, _, last3 w1 _ _ _⟩⟩, (((H1.out.alloc H1.out.size _).alloc (by have := H1.out.size; simp; omega) _).alloc (by have := H1.out.size; simp; omega) _).drew⟩
  rw [show sgOf f A C z = [(f, A), (f, C)] by rw [sgOf, if_neg h1, if_neg h2, if_neg h3, if_neg h4]]
  go_enter Try.func14, Try.ntmps14
  go_wp2_with (first
    | (go_at_call 11; rw [← HE.out]; refine (HX.out _ HA.out.1).mono ?_; rintro e w1 ⟨rfl, hb1⟩; have H1 := hid (HA.out.1.trans (hb1.mono HA.out.1.size)); have hlt : w.heap.size < w1.heap.size := Nat.lt_of_lt_of_le (by have := HA.out.2.2.2; omega) hb1.size; have x0 : w1.cell? ⟨w.heap.size, 0, none⟩ = some (.int .i64 f) := (hb1.cell (p := ⟨w.heap.size, 0, none⟩) (by have := HA.out.2.2.2; simp; omega)).trans d0; have x3 : w1.cell? ⟨w.heap.size, 3, none⟩ = some (.int .i64 z) := (hb1.cell (p := ⟨w.heap.size, 3, none⟩) (by have := HA.out.2.2.2; simp; omega)).trans d3; have HR : Hid ((w1.alloc (.cells #[.int .i64 f, .string A, .int .i64 f, .string C] 47)).heap[w1.heap.size]? = some (.cells #[.int .i64 f, .string A, .int .i64 f, .string C] 47 (0, 0))) := hid (heap_alloc_last w1 _); clear hb1))
  go_ret
  exact ⟨_, 2, rfl, ⟨pairs4 HR.out, (fun x hx => by cases hx; exact ⟨H1.out.size, _, _, HR.out⟩)⟩, (H1.out.alloc H1.out.size _)⟩
end Go.Proofs.Ytclfphffbfdimaa

/- Three votes settle. -/
namespace Go.Proofs.Ytclfphffbfdimaa
open Go.RowKit

theorem ret_oneV {f : Func} {a : Act} {w : World} {Q : Ending → World → Prop} {s : Nat} {t : TypeId} {ad : Addr} {v : Value} (hr : f.results = #[.cell s t]) (hs : a.tmps.getD s undef = .pointer (some ad)) (hl : (loadVar t ad).run Try.prog w = .ok v w) (hd : a.defers = [])
    (h : Q (.returned v) w) : bodyPost Try.prog f Q .ret a w := by
  refine bodyPost_ret (v := v) ?_ hd h
  have h1 : a.tmps.getD s undef = .pointer (some ad) := hs
  simp [results, hr, -Array.getD_eq_getD_getElem?, h1, asAddr, hl]
set_option maxRecDepth 100000 in
set_option maxHeartbeats 1600000 in
theorem ufour_any (w : World) : Calls Try.prog 29 #[] w fun e w' => ∃ ad cp, e = .returned (.agg #[.int .i64 0, .slice ad 4 cp]) ∧ IntsIn w' ad [0, 1, 2, 3] ∧ Below w.heap.size w w' := by
  go_enter Try.func29, Try.ntmps29
  go_wp2
  have hc := (Below.heap_alloc (w.alloc (.cells #[.int .i64 0, .slice (some ⟨w.heap.size + 1, 0, none⟩) 4 4] 24)) (.cells #[.int .i64 0, .int .i64 1, .int .i64 2, .int .i64 3] 3) w.heap.size (by simp)).trans (heap_alloc_last w _)
  refine ret_oneV (s := 0) (ad := ⟨w.heap.size, 0, none⟩) rfl rfl (load_conf _ _ _ _ (cell_two hc).1 (cell_two hc).2) rfl ?_
  have hi := snd_alloc w (.cells #[.int .i64 0, .slice (some ⟨w.heap.size + 1, 0, none⟩) 4 4] 24) (.cells #[.int .i64 0, .int .i64 1, .int .i64 2, .int .i64 3] 3)
  refine ⟨_, 4, rfl, .inr ⟨w.heap.size + 1, 0, rfl, by simp, fun j z hz => ?_⟩, ((Below.refl _ _).alloc (Nat.le_refl _) _).alloc (by simp) _⟩
  rw [Nat.zero_add]
  refine cell_at (L := [.int .i64 0, .int .i64 1, .int .i64 2, .int .i64 3]) hi j _ ?_
  match j, hz with
  | 0, hz => cases hz; rfl
  | 1, hz => cases hz; rfl
  | 2, hz => cases hz; rfl
  | 3, hz => cases hz; rfl
  | j + 4, hz => simp at hz
def xT : ByteArray := ⟨#[120]⟩
def lvM : List Int := [0, 1, 2, 3]
def lvN : List Int := [1, 2, 3, 4]
def lvC : ByteArray := voC 0 lvM xT lvN
def lvA : ByteArray := voS 0 lvM xT lvN
def lvS (j : Nat) : Ta := ⟨0, lvM, (List.range j).map fun i : Nat => ((i : Int), (xT, lvC))⟩
theorem lv_vo : voB 0 lvM xT lvN = true := by decide
theorem lv_ok : rightC 0 lvM = true := by decide
theorem lv_sg (f : Int) : sgOf f lvA lvC 0 = twoS f lvA lvC := rfl
theorem lv_add (j : Nat) (hj : j < 3) : addE (lvS j) (j : Int) xT lvN (sgOf (j : Int) lvA lvC 0) = 0 ∧ added (lvS j) (j : Int) xT lvN (sgOf (j : Int) lvA lvC 0) = lvS (j + 1) := by
  have h1 : addE (lvS j) (j : Int) xT lvN (sgOf (j : Int) lvA lvC 0) = 0 := by
    have e1 : voB (lvS j).ep (lvS j).mem xT lvN = true := lv_vo
    have e2 : hasM (lvS j).mem (j : Int) = true := by
      match j, hj with
      | 0, _ => decide
      | 1, _ => decide
      | 2, _ => decide
    have e3 : voted (lvS j).vs (j : Int) = false := by
      match j, hj with
      | 0, _ => rfl
      | 1, _ => rfl
      | 2, _ => rfl
    rw [addE, if_pos e1, if_pos e2, if_pos (show sgOf (j : Int) lvA lvC 0 = twoS (j : Int) (voS (lvS j).ep (lvS j).mem xT lvN) (voC (lvS j).ep (lvS j).mem xT lvN) from rfl), e3]
    rfl
  refine ⟨h1, ?_⟩
  rw [added, if_pos h1]
  show Ta.mk 0 lvM _ = Ta.mk 0 lvM _
  congr 1
  show (List.range j).map _ ++ [_] = (List.range (j + 1)).map _
  rw [List.range_succ, List.map_append]
  rfl
theorem lv_ch : chosenOf (lvS 3) = some (xT, lvC) := by
  have h : chooser (lvS 3) 0 = true := by
    rw [chooser]
    refine decide_eq_true ?_
    have h1 : castOf (lvS 3).vs 0 = (xT, lvC) := rfl
    rw [h1]
    have h2 : cntB (lvS 3).vs (xT, lvC) = 3 := by
      show List.countP _ [((0 : Int), (xT, lvC)), ((1 : Int), (xT, lvC)), ((2 : Int), (xT, lvC))] = 3
      simp
    rw [h2]
    decide
  rw [chosenOf]
  have h3 : (lvS 3).mem.find? (chooser (lvS 3)) = some 0 := by
    show List.find? _ (0 :: [1, 2, 3]) = _
    rw [List.find?_cons, h]
  rw [h3]
  rfl
theorem lv_len (t : ByteArray) : (signsOf (lvS 3) (xT, lvC) t).length = 3 := by
  have e0 : castOf (lvS 3).vs 0 = (xT, lvC) := rfl
  have e1 : castOf (lvS 3).vs 1 = (xT, lvC) := rfl
  have e2 : castOf (lvS 3).vs 2 = (xT, lvC) := rfl
  have e3 : castOf (lvS 3).vs 3 = noB := rfl
  have e4 : ¬ noB = (xT, lvC) := fun e => by
    have := congrArg (fun z : Bl => z.1.size) e
    exact absurd this (by decide)
  rw [signsOf, List.length_map]
  show (List.filter _ [0, 1, 2, 3]).length = 3
  simp [e0, e1, e2, e3, e4]
/-- While it is tried. -/
structure LvSt (w0 w : World) (F : List Nat) (v : Value) (s : Ta) : Prop where
  tl : TlAt F w v s
  far : ∀ b, b ∈ F → w0.heap.size ≤ b
  bel : Below w0.heap.size w0 w
theorem LvSt.keep {w0 w w' : World} {F : List Nat} {v : Value} {s : Ta} (h : LvSt w0 w F v s) (hb : Below w.heap.size w w') : LvSt w0 w' F v s := ⟨h.tl.keep hb, h.far, h.bel.trans (hb.mono h.bel.size)⟩
def VtAt (w : World) (p q : Nat) (j : Int) : Prop := w.heap[p]? = some (.cells #[.int .i64 j, .string ⟨#[120]⟩, .slice (some ⟨q, 0, none⟩) 4 4, .int .i64 0] 38 (0, 0))
theorem VtAt.cells {w : World} {p q : Nat} {j : Int} (h : VtAt w p q j) : w.cell? ⟨p, 0, none⟩ = some (.int .i64 j) ∧ w.cell? ⟨p, 1, none⟩ = some (.string ⟨#[120]⟩) ∧ w.cell? ⟨p, 2, none⟩ = some (.slice (some ⟨q, 0, none⟩) 4 4) ∧ w.cell? ⟨p, 3, none⟩ = some (.int .i64 0) := ⟨cell_at (L := [_, _, _, _]) h 0 _ rfl, cell_at (L := [_, _, _, _]) h 1 _ rfl, cell_at (L := [_, _, _, _]) h 2 _ rfl, cell_at (L := [_, _, _, _]) h 3 _ rfl⟩
theorem ints_four (w : World) (o : Obj) : IntsIn ((w.alloc (.cells #[.int .i64 1, .int .i64 2, .int .i64 3, .int .i64 4] 3)).alloc o) (some ⟨w.heap.size, 0, none⟩) lvN := by
  have hi := (Below.heap_alloc (w.alloc (.cells #[.int .i64 1, .int .i64 2, .int .i64 3, .int .i64 4] 3)) o w.heap.size (by simp)).trans (heap_alloc_last w _)
  refine .inr ⟨w.heap.size, 0, rfl, by simp; omega, fun j z hz => ?_⟩
  rw [Nat.zero_add]
  refine cell_at (L := [.int .i64 1, .int .i64 2, .int .i64 3, .int .i64 4]) hi j _ ?_
  match j, hz with
  | 0, hz => cases hz; rfl
  | 1, hz => cases hz; rfl
  | 2, hz => cases hz; rfl
  | 3, hz => cases hz; rfl
  | j + 4, hz => simp [lvN] at hz
set_option maxRecDepth 100000 in
set_option maxHeartbeats 6400000 in
theorem ulives_any (w : World) : Calls Try.prog 9 #[] w fun e w' => e = .returned (.bool true) ∧ Below w.heap.size w w' := by
  have HF : Hid (∀ u : World, Calls Try.prog 29 #[] u fun e w' => ∃ ad cp, e = .returned (.agg #[.int .i64 0, .slice ad 4 cp]) ∧ IntsIn w' ad lvM ∧ Below u.heap.size u w') := hid ufour_any
  have HNw : Hid (∀ (u : World) (ad : Option Addr) (cp : Nat), Below w.heap.size w u → IntsIn u ad lvM → Calls Try.prog 12 #[.agg #[.int .i64 0, .slice ad 4 cp]] u fun e w' => ∃ g F, e = .returned (.tuple #[.pointer (some ⟨g, 0, none⟩), .int .i64 0]) ∧ LvSt w w' F (.pointer (some ⟨g, 0, none⟩)) (lvS 0)) := hid (fun u ad cp hu hi => (vnew_yes 0 ad 4 cp lvM rfl u hi lv_ok).mono fun e w' ⟨g, F, k1, k2, k3, k4⟩ => ⟨g, F, k1, k2, (fun b hb => Nat.le_trans hu.size (k3 b hb)), hu.trans (k4.mono hu.size)⟩)
  go_enter Try.func9, Try.ntmps9
  go_wp2_with (first
    | (go_at_call 29; refine (HF.out _).mono ?_; rintro e w1 ⟨ad, cp, rfl, hi1, hb1⟩; have H1 := hid (And.intro hi1 hb1); clear hi1 hb1)
    | (go_at_call 12; refine (HNw.out _ _ _ H1.out.2 H1.out.1).mono ?_; rintro e w2 ⟨g, F, rfl, h2⟩; have H2 := hid h2; clear h2))
  clear H1
  go_loopw [3] (fun i wr => ∃ j : Nat, j ≤ 3 ∧ i = .int .i64 (j : Int) ∧ LvSt w wr F (.pointer (some ⟨g, 0, none⟩)) (lvS j)) (fun i _ => (3 - intOf i).toNat)
  case atStart => exact ⟨0, by omega, rfl, H2.out⟩
  case round =>
    obtain ⟨j, hj, rfl, hst⟩ := hrel
    have HS := hid hst
    clear hst
    by_cases hj3 : j = 3
    · subst hj3
      have hj1 : ¬ (((3 : Nat) : Int) < 3) := by omega
      have hch : chF (lvS 3) = true := by rw [chF, lv_ch]; rfl
      have hcb : chB (lvS 3) = (xT, lvC) := by rw [chB, lv_ch]; rfl
      have HSt : Hid (∀ u : World, TlAt F u (.pointer (some ⟨g, 0, none⟩)) (lvS 3) → Calls Try.prog 18 #[.pointer (some ⟨g, 0, none⟩)] u fun e w' => ∃ a1 c1 a2 c2 a3 c3, e = .returned (.tuple #[.agg #[.string ⟨#[120]⟩, .slice a1 3 c1, .int .i64 1, .slice a2 (nxB (lvS 3)).length c2, .slice a3 3 c3], .bool true]) ∧ Below u.heap.size u w') := hid (fun u hu => (vsettled_at F _ _ u hu).mono fun e w' ⟨r, k1, k2, k3⟩ => by
        rw [SetAns, if_pos hch] at k2
        obtain ⟨a1, c1, a2, c2, a3, c3, k4, _⟩ := k2
        rw [hcb, lv_len, lv_len] at k4
        exact ⟨a1, c1, a2, c2, a3, c3, by rw [k1, k4]; rfl, k3⟩)
      have HCt : Hid (∀ u : World, TlAt F u (.pointer (some ⟨g, 0, none⟩)) (lvS 3) → Calls Try.prog 17 #[.pointer (some ⟨g, 0, none⟩)] u fun e w' => e = .returned (.int .i64 3) ∧ Below u.heap.size u w') := hid (fun u hu => vcount_at F _ _ u hu)
      clear hch hcb
      go_wp2_with (first
        | (go_at_call 18; refine (HSt.out _ HS.out.tl).mono ?_; rintro e w3 ⟨a1, c1, a2, c2, a3, c3, rfl, hb3⟩; have H3 := hid (HS.out.keep hb3); clear hb3)
        | (go_at_call 17; refine (HCt.out _ (H3.out.tl.keep ((Below.refl _ _).alloc (Nat.le_refl _) _))).mono ?_; rintro e w4 ⟨rfl, hb4⟩; have H4 := hid ((H3.out.bel.alloc H3.out.bel.size _).trans (hb4.mono (by have := H3.out.bel.size; simp; omega))); clear hb4))
      go_ret
      exact ⟨rfl, H4.out⟩
    · have hj1 : (j : Int) < 3 := by omega
      have hj0 : (0 : Int) ≤ (j : Int) := Int.natCast_nonneg _
      have HJ := hid (And.intro hj hj3)
      clear hj hj3
      go_wp2
      obtain ⟨wz, ez⟩ : ∃ wz, wz = (wr.alloc (.cells #[.int .i64 1, .int .i64 2, .int .i64 3, .int .i64 4] 3)).alloc (.cells #[.int .i64 (j : Int), .string ⟨#[120]⟩, .slice (some ⟨wr.heap.size, 0, none⟩) 4 4, .int .i64 0] 38) := ⟨_, rfl⟩
      have hbz : Below wr.heap.size wr wz := by rw [ez]; exact ((Below.refl _ _).alloc (Nat.le_refl _) _).alloc (by simp) _
      have HZ : Hid (VtAt wz (wr.heap.size + 1) wr.heap.size (j : Int) ∧ IntsIn wz (some ⟨wr.heap.size, 0, none⟩) lvN ∧ LvSt w wz F (.pointer (some ⟨g, 0, none⟩)) (lvS j) ∧ ∀ b, b ∈ F → b < wr.heap.size) := hid ⟨by rw [ez]; exact snd_alloc wr _ _, by rw [ez]; exact ints_four wr _, HS.out.keep hbz, HS.out.tl.lt⟩
      rw [← ez]
      clear ez hbz
      obtain ⟨q, eq⟩ : ∃ q, q = wr.heap.size := ⟨_, rfl⟩
      rw [← eq] at HZ ⊢
      have HQ := hid eq
      clear eq
      have HV0 : Hid (VtAt wz.drew (q + 1) q (j : Int)) := hid HZ.out.1
      refine wp_region_G (S := fun ww => VtAt ww (q + 1) q (j : Int)) (ex := []) (by kernel_rfl) ?_
      try (change wpAnyG _ _ _ _ _ _ _ _ _ (World.drew _))
      refine wpAnyG_take (i := 0) (v := ?v1) rfl (by kernel_rfl) (fun _ _ _ h => h) (Or.inl ⟨by rfl, ?hy1⟩) HV0.out ?rest1
      case hy1 => (intro ww _; go_simp; try with_reducible rfl)
      go_simp
      refine wpAnyG_take (i := 1) (v := ?v2) rfl (by kernel_rfl) (fun _ _ _ h => h) (Or.inl ⟨by rfl, ?hy2⟩) HV0.out ?rest2
      case hy2 => (intro ww _; go_simp; try with_reducible rfl)
      go_simp
      refine wpAnyG_take (i := 2) (v := ?v3) rfl (by kernel_rfl) (fun _ _ _ h => h) (Or.inl ⟨by rfl, ?hy3⟩) HV0.out ?rest3
      case hy3 => (intro ww _; go_simp; try with_reducible rfl)
      go_simp
      refine wpAnyG_take (i := 3) (v := ?v4) rfl (by kernel_rfl) (fun _ _ _ h => h) (Or.inl ⟨by rfl, ?hy4⟩) HV0.out ?rest4
      case hy4 => (intro ww hS; obtain ⟨y0, y1, y2, y3⟩ := hS.cells; go_simp; try with_reducible rfl)
      go_simp
      refine wpAnyG_take (i := 4) (v := ?v5) rfl (by kernel_rfl) (fun _ _ _ h => h) (Or.inl ⟨by rfl, ?hy5⟩) HV0.out ?rest5
      case hy5 => (intro ww _; go_simp; try with_reducible rfl)
      go_simp
      refine wpAnyG_take (i := 5) (v := ?v6) rfl (by kernel_rfl) (fun _ _ _ h => h) (Or.inl ⟨by rfl, ?hy6⟩) HV0.out ?rest6
      case hy6 => (intro ww hS; obtain ⟨y0, y1, y2, y3⟩ := hS.cells; go_simp; try with_reducible rfl)
      go_simp
      refine wpAnyG_take (i := 6) (v := ?v7) rfl (by kernel_rfl) (fun _ _ _ h => h) (Or.inl ⟨by rfl, ?hy7⟩) HV0.out ?rest7
      case hy7 => (intro ww hS; obtain ⟨y0, y1, y2, y3⟩ := hS.cells; go_simp; try with_reducible rfl)
      go_simp
      refine wpAnyG_all (rs := [7]) (by kernel_rfl) (by simp) ?_
      intro i hi
      obtain rfl := List.mem_singleton.1 hi
      clear hi
      refine wpOp_v rfl (by rfl) (fun K hK => ?_)
      go_simp
      refine (HF.out _).mono ?_
      rintro e w4 ⟨ad4, cp4, rfl, hi4, hb4⟩
      have hbd : Below wz.heap.size wz w4 := (Below.refl _ _).drew.trans hb4
      have H4 : Hid (VtAt w4 (q + 1) q (j : Int) ∧ IntsIn w4 (some ⟨q, 0, none⟩) lvN ∧ LvSt w w4 F (.pointer (some ⟨g, 0, none⟩)) (lvS j) ∧ IntsIn w4 ad4 lvM) := hid ⟨(hbd.block _ (lt_of_blk HZ.out.1)).trans HZ.out.1, HZ.out.2.1.keep hbd (Nat.le_refl _), HZ.out.2.2.1.keep hbd, hi4⟩
      clear hi4 hb4 hbd
      refine hK _ _ ⟨fun _ => H4.out.1, ?_⟩
      clear hK K
      go_simp
      refine wpAnyG_all (rs := [8]) (by kernel_rfl) (by simp) ?_
      intro i hi
      obtain rfl := List.mem_singleton.1 hi
      clear hi
      refine wpOp_v rfl (by rfl) (fun K hK => ?_)
      go_simp
      refine (usigs_any (j : Int) xT (by decide) (some ⟨q, 0, none⟩) 4 4 lvN rfl (by decide) 0 0 ad4 4 cp4 lvM rfl (by decide) _ H4.out.2.2.2 H4.out.2.1).mono ?_
      rintro e w5 ⟨ad5, cd5, rfl, hn5, hb5⟩
      have H5 : Hid (VtAt w5 (q + 1) q (j : Int) ∧ IntsIn w5 (some ⟨q, 0, none⟩) lvN ∧ LvSt w w5 F (.pointer (some ⟨g, 0, none⟩)) (lvS j) ∧ PairsIn w5 ad5 (sgOf (j : Int) lvA lvC 0)) := hid ⟨(hb5.block _ (lt_of_blk H4.out.1)).trans H4.out.1, H4.out.2.1.keep hb5 (Nat.le_refl _), H4.out.2.2.1.keep hb5, hn5.1⟩
      clear hn5 hb5
      refine hK _ _ ⟨fun _ => H5.out.1, ?_⟩
      clear hK K
      go_simp
      refine wpAnyG_all (rs := [9]) (by kernel_rfl) (by simp) ?_
      intro i hi
      obtain rfl := List.mem_singleton.1 hi
      clear hi
      refine wpOp_v rfl (by rfl) (fun K hK => ?_)
      go_simp
      refine (vadd_at F (.pointer (some ⟨g, 0, none⟩)) (lvS j) (j : Int) xT (by decide) (some ⟨q, 0, none⟩) 4 4 lvN rfl (by decide) ad5 _ cd5 (sgOf (j : Int) lvA lvC 0) rfl (by show 2 ≤ maxLen; decide) _ H5.out.2.2.1.tl H5.out.2.1 H5.out.2.2.2).mono ?_
      obtain ⟨ea1, ea2⟩ := lv_add j (by have := HJ.out; omega)
      rw [ea1, ea2]
      rintro e w6 ⟨rfl, ht6, ho6⟩
      have H6 : Hid (VtAt w6 (q + 1) q (j : Int) ∧ LvSt w w6 F (.pointer (some ⟨g, 0, none⟩)) (lvS (j + 1))) := hid ⟨(ho6.block _ (lt_of_blk H5.out.1) (fun hm => by have h1 := HZ.out.2.2.2 _ hm; have h2 := HQ.out; omega)).trans H5.out.1, ht6, H5.out.2.2.1.far, H5.out.2.2.1.bel.trans (ho6.below H5.out.2.2.1.bel.size H5.out.2.2.1.far)⟩
      clear ht6 ho6 ea1 ea2
      refine hK _ _ ⟨fun _ => H6.out.1, ?_⟩
      clear hK K
      go_simp
      refine wpAnyG_take (i := 10) (v := ?v8) rfl (by kernel_rfl) (fun _ _ _ h => h) (Or.inl ⟨by rfl, ?hy8⟩) H6.out.1 ?rest8
      case hy8 => (intro ww _; go_simp; try with_reducible rfl)
      go_simp
      refine wpAnyG_done (by kernel_rfl) ?_ _
      go_simp
      go_wp2
      go_roundw
      case rel => exact ⟨j + 1, by have := HJ.out; omega, by go_num, H6.out.2⟩
      case measure => simp [intOf]; omega
end Go.Proofs.Ytclfphffbfdimaa
