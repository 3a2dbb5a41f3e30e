/- Texts laid together: LpT LpW LpX. -/
import Derived.Test.YtecidbdbdnnglaaGreatLmA
import Derived.Test.YtecidbdbdnnglaaGreatBaC
import Derived.Maps.RangeWalk
import Derived.Sort.KeysCollected
import Derived.Sort.OwnSorted
import Derived.Shelf.Sort.Plain
import Derived.Test.YtecidbdbdnnglaaGreatMx6
import Derived.Test.YtecidbdbdnnglaaGreatMy2
import Derived.Test.YtecidbdbdnnglaaGreatPwAM
import Derived.Test.YtecidbdbdnnglaaGreatMx2
/- The program's ledger: its keys, sorted. -/
namespace Go.Proofs.YtecidbdbdnnglaaGreat
open Go.RowKit Go.Maps Go.Sort

def renLn190 : Go.Shelf.Ren := ⟨fun | 125 => 127 | 128 => 146 | 129 => 147 | 190 => 116 | 258 => 126 | 302 => 137 | 303 => 138 | 304 => 139 | 305 => 140 | 306 => 141 | 307 => 142 | 308 => 143 | 309 => 144 | 310 => 145 | 329 => 155 | 330 => 156 | 333 => 154 | 334 => 157 | 335 => 158 | 336 => 159 | 344 => 164 | n => n, fun | 0 => 0 | 3 => 3 | 4 => 4 | 5 => 5 | 9 => 9 | 31 => 133 | 46 => 146 | 51 => 172 | 53 => 35 | 131 => 158 | 182 => 164 | 183 => 165 | 218 => 177 | 222 => 180 | 228 => 183 | 229 => 184 | n => n, fun | n => n⟩
theorem layLn190 : Go.Proofs.Lays.n190 Tryz.prog renLn190 := {
  mixed := by kernel_rfl
  f125 := Tryz.func127.trans (congrArg some (by kernel_rfl))
  f128 := Tryz.func146.trans (congrArg some (by kernel_rfl))
  f129 := Tryz.func147.trans (congrArg some (by kernel_rfl))
  f190 := Tryz.func116.trans (congrArg some (by kernel_rfl))
  f258 := Tryz.func126.trans (congrArg some (by kernel_rfl))
  f302 := Tryz.func137.trans (congrArg some (by kernel_rfl))
  f303 := Tryz.func138.trans (congrArg some (by kernel_rfl))
  f304 := Tryz.func139.trans (congrArg some (by kernel_rfl))
  f305 := Tryz.func140.trans (congrArg some (by kernel_rfl))
  f306 := Tryz.func141.trans (congrArg some (by kernel_rfl))
  f307 := Tryz.func142.trans (congrArg some (by kernel_rfl))
  f308 := Tryz.func143.trans (congrArg some (by kernel_rfl))
  f309 := Tryz.func144.trans (congrArg some (by kernel_rfl))
  f310 := Tryz.func145.trans (congrArg some (by kernel_rfl))
  f329 := Tryz.func155.trans (congrArg some (by kernel_rfl))
  f330 := Tryz.func156.trans (congrArg some (by kernel_rfl))
  f333 := Tryz.func154.trans (congrArg some (by kernel_rfl))
  f334 := Tryz.func157.trans (congrArg some (by kernel_rfl))
  f335 := Tryz.func158.trans (congrArg some (by kernel_rfl))
  f336 := Tryz.func159.trans (congrArg some (by kernel_rfl))
  f344 := Tryz.func164.trans (congrArg some (by kernel_rfl))
  t0 := Tryz.underlying0
  a0 := Tryz.isAgg0
  z0 := Tryz.sizeOf0
  v0 := Tryz.zeroValue0
  t3 := Tryz.underlying3
  a3 := Tryz.isAgg3
  z3 := Tryz.sizeOf3
  v3 := Tryz.zeroValue3
  t4 := Tryz.underlying4
  a4 := Tryz.isAgg4
  z4 := Tryz.sizeOf4
  v4 := Tryz.zeroValue4
  t5 := Tryz.underlying5
  a5 := Tryz.isAgg5
  z5 := Tryz.sizeOf5
  v5 := Tryz.zeroValue5
  t9 := Tryz.underlying9
  a9 := Tryz.isAgg9
  z9 := Tryz.sizeOf9
  v9 := Tryz.zeroValue9
  t31 := Tryz.underlying133
  a31 := Tryz.isAgg133
  z31 := Tryz.sizeOf133
  v31 := Tryz.zeroValue133
  t46 := Tryz.underlying146
  a46 := Tryz.isAgg146
  z46 := Tryz.sizeOf146
  v46 := Tryz.zeroValue146
  t51 := Tryz.underlying172
  a51 := Tryz.isAgg172
  z51 := Tryz.sizeOf172
  v51 := Tryz.zeroValue172
  t53 := Tryz.underlying35
  a53 := Tryz.isAgg35
  z53 := Tryz.sizeOf35
  v53 := Tryz.zeroValue35
  t131 := Tryz.underlying158
  a131 := Tryz.isAgg158
  z131 := Tryz.sizeOf158
  v131 := Tryz.zeroValue158
  t182 := Tryz.underlying164
  a182 := Tryz.isAgg164
  z182 := Tryz.sizeOf164
  v182 := Tryz.zeroValue164
  t183 := Tryz.underlying165
  a183 := Tryz.isAgg165
  z183 := Tryz.sizeOf165
  v183 := Tryz.zeroValue165
  t218 := Tryz.underlying177
  a218 := Tryz.isAgg177
  z218 := Tryz.sizeOf177
  v218 := Tryz.zeroValue177
  t222 := Tryz.underlying180
  a222 := Tryz.isAgg180
  z222 := Tryz.sizeOf180
  v222 := Tryz.zeroValue180
  t228 := Tryz.underlying183
  a228 := Tryz.isAgg183
  z228 := Tryz.sizeOf183
  v228 := Tryz.zeroValue183
  t229 := Tryz.underlying184
  a229 := Tryz.isAgg184
  z229 := Tryz.sizeOf184
  v229 := Tryz.zeroValue184 }
set_option maxRecDepth 100000 in
set_option maxHeartbeats 3200000 in
theorem grising_any (m : Nat) (L : List Kb) (hr : Rise L) (hf : L.length ≤ 16) (w : World) (hown : KmAt w m L) :
    Calls Tryz.prog 95 #[.map (some m)] w fun e w' => ∃ (g cap : Nat), e = .returned (.slice (some ⟨g, 0, none⟩) L.length cap) ∧ (StrsIn w' (some ⟨g, 0, none⟩) (L.map (·.1)) ∧ w.heap.size ≤ g ∧ g < w'.heap.size) ∧ Below w.heap.size w w' := by
  obtain ⟨i0, hi, hz0, hz1, hz2⟩ := info_parts Tryz.info9
  have hbl := hown.lt
  have hsz : Maps.size (dM L) = L.length := dM_size L
  have hlen := fun ty => KmAt.len hown ty
  have HR := hid (And.intro hr hf)
  obtain ⟨D0, eD0⟩ : ∃ D0, D0 = dM L := ⟨_, rfl⟩
  obtain ⟨n, en⟩ : ∃ n, n = L.length := ⟨_, rfl⟩
  have hown2 : w.ownsMap Tryz.prog 9 fltE m n D0 := by rw [en, eD0]; exact hown
  rw [← eD0, ← en] at hsz
  rw [← en] at hf
  have HE := hid (And.intro eD0 en)
  rw [← en] at hlen
  have hmax : n ≤ maxLen := by unfold maxLen; omega
  clear hr hown eD0 en
  go_enter Tryz.func95, Tryz.ntmps95
  go_wp2_with (first
    | (at_make; refine wpList_make_own _ rfl _ _ 133 rfl w.heap.size 9 i0 (.string ⟨#[]⟩) 1 Tryz.underlying133 hi hz0 hz1 _ _ _ n rfl rfl rfl (by rw [hz2]; omega) hmax (Nat.le_refl _) ?_; intro w1 hrow1 hg1)
    | (at_range; refine wpList_range_own _ rfl _ 67 rfl 9 48 str_keyed Tryz.mapT _ m n _ rfl (hown2.kept hg1 (by simp)) ?_; intro w0 hrg0 hg0 hs0))
  go_frame
  go_loopw [3] (fun v wr => ∃ (left : Lit → Bool) (cnt : Nat) (ss : List (List UInt8)), wr.ranges Tryz.prog 9 fltE m w1.heap.size n D0 left cnt ∧ ss.length + cnt ≤ n ∧
      wr.ownsRow w.heap.size 9 1 v ss.length (ss.map encStr) ∧ v ≠ .slice none 0 0 ∧ Collected D0 left ss ∧ Below w.heap.size w wr)
    (fun _ wr => wr.rangeLeft m w1.heap.size)
  case atStart =>
    exact ⟨_, _, [], hrg0, by simp [hsz], hrow1.kept hg0 (Or.inr (by simp [Value.ownBlock])), by simp, Collected.start D0,
      ((Below.refl _ _).grown hg1 (Nat.le_refl _) (fun j hj => by cases hj)).grown hg0 hg1.size (fun j hj => by cases hj)⟩
  case round =>
    obtain ⟨left, cnt, ss, hrg, hcs, hrow, hnn, hC, hnx⟩ := hrel
    clear hlen
    go_wp2_with (first
      | (at_next; refine wpList_next_ranges _ rfl _ rfl 9 str_keyed fltE encStr (fun b : Nat => Value.float .f64 b) (fun key kl hk => by obtain ⟨x, hx, _⟩ := Maps.keyOf_str Tryz.underlying9 hk; exact ⟨x, hx⟩) (fun v y hv => by obtain ⟨c, rfl, _⟩ := fltE_inv hv; exact ⟨c, rfl⟩) m w1.heap.size n _ _ _ rfl hrg ?_ ?_))
    · intro hc0 hl0
      rcases hrow.2 with ⟨hnil, _⟩ | ⟨g, cap, cur, rfl, hbase, hb, h1, h2, h3, h4⟩
      · exact absurd hnil hnn
      have hH : Holds encStr wr g 0 ss.toArray := holds_of_block hb (by simpa using h4)
      have hgl : g < wr.heap.size := (Array.getElem?_eq_some_iff.1 hb).1
      have hc := Any.slices_Sort_string layLn190 g 0 cap ss wr hH hgl (by omega)
      have hperm := hC.perm hown2 str_keyed Tryz.underlying9 hl0
      have hfin : ∀ (nn : Nat) (os : Array Obj) (w' : World), w' = grow (putRow encStr (Sort.ahead wr nn) g 0 (ss.mergeSort fun x y => decide (x ≤ y)).toArray) os → ((StrsIn w' (some ⟨g, 0, none⟩) (L.map (·.1)) ∧ w.heap.size ≤ g ∧ g < w'.heap.size) ∧ Below w.heap.size w w') ∧ ss.length = L.length := fun nn os w' hw' => by
        subst hw'
        rw [HE.out.1, keys_of] at hperm
        have hsrt := keys_sorted HR.out.1 hperm
        have hrow9 := ownsRow_sorted (os := os) (n := nn) (ts := ss.mergeSort fun x y => decide (x ≤ y)) (by simp) hbase hb h1 h2 h3
        have hgl2 := Nat.lt_of_lt_of_le hgl (grownBy_sorted (w := wr) (g := g) (n := nn) (os := os) (ss.mergeSort fun x y => decide (x ≤ y)).toArray).size
        refine ⟨⟨⟨.inr ⟨g, 0, rfl, hgl2, fun j sj hj => ?_⟩, hbase, hgl2⟩, hnx.grown (grownBy_sorted _) hnx.size (fun j hj => by cases hj; exact hbase)⟩, by have := hperm.length_eq; simpa using this⟩
        · have hj2 : ((ss.mergeSort fun x y => decide (x ≤ y)).map encStr)[j]? = some (.string sj) := by
            rw [show (ss.mergeSort fun x y => decide (x ≤ y)) = L.map fun y => y.1.data.toList from hsrt, List.map_map, List.getElem?_map]
            rw [List.getElem?_map] at hj
            cases hx : L[j]? with
            | none => rw [hx] at hj; cases hj
            | some y =>
              rw [hx] at hj
              obtain rfl := Option.some.inj hj
              rfl
          have := hrow9.cells (g := g) rfl j _ hj2
          rwa [Addr.add_lit] at this
      have HF := hid hfin
      clear hfin hperm hH h1 h2 h3 h4 hb hbase hC hcs hl0 hc0 hrg hrow hnn hgl
      go_wp2_with (go_at_call 116; refine hc.mono ?_; rintro e w' ⟨rfl, nn, os, hw'⟩; have HW := hid (HF.out nn os w' hw'); clear hw')
      go_ret
      obtain ⟨⟨k1, k2⟩, k3⟩ := HW.out
      have e9 : Ending.returned (Value.slice (some ⟨g, 0, none⟩) ss.length cap) = .returned (.slice (some ⟨g, 0, none⟩) L.length cap) := by rw [k3]
      first | exact ⟨g, cap, e9, k1, k2⟩ | exact ⟨g, ⟨cap, e9⟩, k1, k2⟩ | (simp at e9; exact ⟨g, e9, k1, k2⟩)
    · intro x c kl yd yp w2 cnt2 hkey hlk hv hat hrg2 hlt hg2 hs2 hen
      obtain ⟨x', ex, rfl, _⟩ := Maps.keyOf_str Tryz.underlying9 hkey
      obtain rfl : x = x' := encStr_inj ex
      have hrow2 := hrow.kept hg2 (Or.inr (row_ne_iter hrow hrg).symm)
      clear hs2
      go_wp2_with (first
        | (at_builtin; refine wpList_append_own _ rfl _ _ 133 rfl w.heap.size 9 i0 (.string ⟨#[]⟩) 1 16 Tryz.underlying133 hi hz0 hz1 hz2 rfl (by decide) _ _ _ rfl (hrow2.alloc _) ⟨w2.heap.size, 0, none⟩ 1 1 [encStr x] rfl rfl (cell_one_new _ _ _) (by simp [Value.oneCell', encStr]) (by unfold maxLen at *; omega) (by omega) (by have := hnx.size; have := hg2.size; simp; omega) ?_; intro v' w3 hown' hg3 hnil3; go_frame))
      have hrg3 := (hrg2.alloc _).kept hg3 (row_ne_low hrow2 hbl) (row_ne_iter hrow2 hrg2)
      go_roundw
      case rel =>
        refine ⟨_, cnt2, ss ++ [x], hrg3, by simp; omega, by simpa using hown', fun hv' => by have := (hnil3.1 hv').2; omega, hC.step hlk hat, ?_⟩
        exact ((hnx.grown hg2 hnx.size (fun j hj => by cases hj; exact hg1.size)).alloc (by have := hnx.size; have := hg2.size; omega) _).grown hg3 (by have := hnx.size; have := hg2.size; simp; omega) (fun j hj => (hrow2.lt j hj).1)
      case measure => rw [hrg3.left_eq, hrg.left_eq]; exact hlt
end Go.Proofs.YtecidbdbdnnglaaGreat

/- The program's ledger as bytes: writeKeys, writeLast. -/
namespace Go.Proofs.YtecidbdbdnnglaaGreat
open Go.RowKit

/-- The program's writer, with the blocks that it writes. -/
def PvAt (F : List Nat) (lim : Int) (c : Nat) (w : World) (l : List UInt8) : Prop := ∃ v, WrAt w c v lim l 0 ∧ F = c :: v.ownBlock.toList
def PvTo (F : List Nat) (w w' : World) (lim : Int) (c : Nat) (l : List UInt8) : Prop := ∃ F', PvAt F' lim c w' l ∧ (∀ b, b ∈ F' → b ∈ F ∨ w.heap.size ≤ b) ∧ Out F w w'
theorem PvAt.lt {F : List Nat} {lim : Int} {c : Nat} {w : World} {l : List UInt8} (h : PvAt F lim c w l) : ∀ b, b ∈ F → b < w.heap.size := by
  obtain ⟨v, hv, rfl⟩ := h
  intro b hb
  rcases List.mem_cons.1 hb with e | hb
  · rw [e]; exact hv.lt
  · exact (hv.own.lt b (by simpa using hb)).2
theorem PvAt.stay {F : List Nat} {lim : Int} {c : Nat} {w w' : World} {l : List UInt8} (h : PvAt F lim c w l) (hb : ∀ b, b ∈ F → w'.heap[b]? = w.heap[b]?) : PvAt F lim c w' l := by
  obtain ⟨v, hv, rfl⟩ := h
  refine ⟨v, ⟨(hb c (by simp)).trans hv.blk, hv.own.1, ?_⟩, rfl⟩
  rcases hv.own.2 with hn | ⟨g, cap, cur, e, hB, hh, hr⟩
  · exact .inl hn
  · exact .inr ⟨g, cap, cur, e, hB, (hb g (by rw [e]; simp [Value.ownBlock])).trans hh, hr⟩
theorem PvAt.keep {F : List Nat} {lim : Int} {c : Nat} {w w' : World} {l : List UInt8} (h : PvAt F lim c w l) (hb : Below w.heap.size w w') : PvAt F lim c w' l := h.stay (fun b hF => hb.block b (h.lt b hF))
theorem kept_out {c : Nat} {v : Value} {w w' : World} (h : Kept c v.ownBlock w w') : Out (c :: v.ownBlock.toList) w w' :=
  ⟨h.os, h.tape, h.output, h.size, fun k hk hn => h.block k hk (fun e => hn (by simp [e])) (fun e => hn (by simp [← e]))⟩
theorem pv_to {c : Nat} {v v' : Value} {w w' : World} {lim : Int} {l : List UInt8} (h : WrAt w' c v' lim l 0) (hk : Kept c v.ownBlock w w') (hm : Moved w v v') : PvTo (c :: v.ownBlock.toList) w w' lim c l := by
  refine ⟨_, ⟨v', h, rfl⟩, fun b hb => ?_, kept_out hk⟩
  rcases List.mem_cons.1 hb with e | hb
  · exact .inl (by simp [e])
  · rcases hm with e | ⟨g, e, hg⟩
    · exact .inl (by rw [e] at hb; simp [hb])
    · rw [e] at hb
      obtain rfl : b = g := by simpa using hb
      exact .inr hg
theorem pvbyte {F : List Nat} (lim : Int) (h0 : 0 ≤ lim) (h1 : lim ≤ 4294967296) (c : Nat) (w : World) (l : List UInt8) (n : Nat) (hn : n < 256) (hl : (l.length : Int) + 1 ≤ lim) (h : PvAt F lim c w l) :
    Calls Tryz.prog 55 #[.pointer (some ⟨c, 0, none⟩), .int .i64 (n : Int)] w fun e w' => e = .returned (.tuple #[]) ∧ PvTo F w w' lim c (l ++ be 1 n) := by
  obtain ⟨v, hv, rfl⟩ := h
  refine (wbyte_any c v lim l 0 n w hv h0 (by omega) (by omega) (by omega)).mono ?_
  rintro e w' ⟨rfl, v', h', hk, hm⟩
  rw [(wLx lim l 1 n (by omega) hl).1, (wLx lim l 1 n (by omega) hl).2] at h'
  exact ⟨rfl, pv_to h' hk hm⟩
theorem pvlong {F : List Nat} (lim : Int) (h0 : 0 ≤ lim) (h1 : lim ≤ 4294967296) (c : Nat) (w : World) (l : List UInt8) (n : Nat) (hn : n < 4294967296) (hl : (l.length : Int) + 4 ≤ lim) (h : PvAt F lim c w l) :
    Calls Tryz.prog 57 #[.pointer (some ⟨c, 0, none⟩), .int .i64 (n : Int)] w fun e w' => e = .returned (.tuple #[]) ∧ PvTo F w w' lim c (l ++ be 4 n) := by
  obtain ⟨v, hv, rfl⟩ := h
  refine (wlong_any c v lim l 0 n w hv h0 (by omega) (by omega) (by omega)).mono ?_
  rintro e w' ⟨rfl, v', h', hk, hm⟩
  rw [(wLx lim l 4 n (by omega) hl).1, (wLx lim l 4 n (by omega) hl).2] at h'
  exact ⟨rfl, pv_to h' hk hm⟩
theorem pvtext {F : List Nat} (lim : Int) (h0 : 0 ≤ lim) (h1 : lim ≤ 4294967296) (c : Nat) (w : World) (l : List UInt8) (s : ByteArray) (hs : s.size ≤ 65535) (hl : (l.length : Int) + (2 + s.size) ≤ lim) (h : PvAt F lim c w l) :
    Calls Tryz.prog 56 #[.pointer (some ⟨c, 0, none⟩), .string s] w fun e w' => e = .returned (.tuple #[]) ∧ PvTo F w w' lim c (l ++ (be 2 s.size ++ s.data.toList)) := by
  obtain ⟨v, hv, rfl⟩ := h
  refine (wtext_any c v lim l 0 s w hv h0 (by omega) (by omega) (by omega) (fun _ => by omega)).mono ?_
  rintro e w' ⟨rfl, v', h', hk, hm⟩
  rw [(xLx lim l s hs hl).1, (xLx lim l s hs hl).2] at h'
  exact ⟨rfl, pv_to h' hk hm⟩
theorem pvbits {F : List Nat} (lim : Int) (h0 : 0 ≤ lim) (h1 : lim ≤ 4294967296) (c : Nat) (w : World) (l : List UInt8) (n : Nat) (hn : n < 18446744073709551616) (hl : (l.length : Int) + 8 ≤ lim) (h : PvAt F lim c w l) :
    Calls Tryz.prog 96 #[.pointer (some ⟨c, 0, none⟩), .int .u64 (n : Int)] w fun e w' => e = .returned (.tuple #[]) ∧ PvTo F w w' lim c (l ++ be 8 n) := by
  obtain ⟨v, hv, rfl⟩ := h
  refine (wbits_any c v lim l 0 n w hv h0 (by omega) (by omega) hn).mono ?_
  rintro e w' ⟨rfl, v', h', hk, hm⟩
  rw [(bLx lim l n hl).1, (bLx lim l n hl).2] at h'
  exact ⟨rfl, pv_to h' hk hm⟩
/-- What a writer does to a thing that lies elsewhere. -/
theorem PvTo.far {F : List Nat} {w w' : World} {lim : Int} {c : Nat} {l : List UInt8} (h : PvTo F w w' lim c l) : ∃ F', PvAt F' lim c w' l ∧ (∀ b, b ∈ F' → b ∈ F ∨ w.heap.size ≤ b) ∧ Out F w w' ∧ ∀ b, b < w.heap.size → b ∉ F → b ∉ F' := by
  obtain ⟨F', h1, h2, h3⟩ := h
  exact ⟨F', h1, h2, h3, fun b hb hn hm => by
    rcases h2 b hm with h | h
    · exact hn h
    · omega⟩
/-- While the keys are written: the map and the keys' list lie elsewhere. -/
structure WkSt (F0 : List Nat) (w0 w : World) (F : List Nat) (c : Nat) (l : List UInt8) (m : Nat) (L : List Kb) (g : Nat) (ks : List ByteArray) : Prop where
  pv : PvAt F 65536 c w l
  fr : ∀ b, b ∈ F → b ∈ F0 ∨ w0.heap.size ≤ b
  out : Out F0 w0 w
  km : KmAt w m L
  mF : m ∉ F
  st : StrsIn w (some ⟨g, 0, none⟩) ks
  gF : g ∉ F
  gl : g < w.heap.size
theorem WkSt.to {F0 : List Nat} {w0 w w' : World} {F : List Nat} {c : Nat} {l l' : List UInt8} {m : Nat} {L : List Kb} {g : Nat} {ks : List ByteArray} (h : WkSt F0 w0 w F c l m L g ks) (k : PvTo F w w' 65536 c l') : ∃ F', WkSt F0 w0 w' F' c l' m L g ks := by
  obtain ⟨F', k1, k2, k3, k4⟩ := k.far
  refine ⟨F', k1, fun b hb => ?_, h.out.trans k3 h.fr, h.km.keep (k3.block m h.km.lt h.mF), k4 m h.km.lt h.mF, ?_, k4 g h.gl h.gF, Nat.lt_of_lt_of_le h.gl k3.size⟩
  · rcases k2 b hb with e | e
    · exact h.fr b e
    · exact .inr (Nat.le_trans h.out.size e)
  · rcases h.st with e | ⟨g', off, ha, hg, hc⟩
    · exact .inl e
    · cases ha
      exact .inr ⟨g, 0, rfl, Nat.lt_of_lt_of_le hg k3.size, fun j z hz => (World.cell?_of_block (a := ⟨g, 0 + j, none⟩) (k3.block g h.gl h.gF)).trans (hc j z hz)⟩
theorem itsB_snoc (L : List Kb) (j : Nat) (hj : j < L.length) : itsB (L.take (j + 1)) = itsB (L.take j) ++ itB (L.getD j (kEm, 0)) := by
  rw [List.take_add_one, getK_at hj, itsB_app]
  show _ ++ itsB [L.getD j (kEm, 0)] = _
  rw [itsB_cons]
  show _ ++ (itB _ ++ []) = _
  rw [List.append_nil]
theorem itsB_take (L : List Kb) (j : Nat) (h : ∀ y, y ∈ L → y.1.size ≤ 16) (h16 : L.length ≤ 16) : (itsB (L.take j)).length ≤ 416 := by
  have := itsB_len (L.take j) (fun y hy => h y (List.mem_of_mem_take hy))
  have h2 : (L.take j).length ≤ 16 := by rw [List.length_take]; omega
  omega
theorem get_nth {L : List Kb} (hr : Rise L) {j : Nat} (hj : j < L.length) : getK (L.getD j (kEm, 0)).1 L = some (L.getD j (kEm, 0)).2 := get_mem hr (List.mem_of_getElem? (getK_at hj))
set_option maxRecDepth 100000 in
set_option maxHeartbeats 6400000 in
theorem gwriteKeys_any {F : List Nat} (c : Nat) (w : World) (l : List UInt8) (hl : l.length ≤ 1000) (h : PvAt F 65536 c w l) (m : Nat) (L : List Kb) (hk : KmAt w m L) (hmF : m ∉ F) (hr : Rise L) (h16 : L.length ≤ 16) (hok : ∀ y, y ∈ L → itOk y) :
    Calls Tryz.prog 58 #[.pointer (some ⟨c, 0, none⟩), .map (some m)] w fun e w' => e = .returned (.tuple #[]) ∧ PvTo F w w' 65536 c (l ++ (be 1 L.length ++ itsB L)) := by
  have hlen := fun ty => hk.len ty
  have HH := hid (And.intro h (And.intro hk (And.intro hmF (And.intro hr (And.intro h16 hok)))))
  have HL := hid hl
  obtain ⟨n, en⟩ : ∃ n, n = L.length := ⟨_, rfl⟩
  rw [← en] at hlen
  have HN := hid en
  have hn16 : n ≤ 16 := by omega
  have hn2 : (n : Int) ≤ 9223372036854775807 := by omega
  have HRs : Hid (∀ u : World, KmAt u m L → Calls Tryz.prog 95 #[.map (some m)] u fun e w' => ∃ (g cap : Nat), e = .returned (.slice (some ⟨g, 0, none⟩) n cap) ∧ (StrsIn w' (some ⟨g, 0, none⟩) (L.map (·.1)) ∧ u.heap.size ≤ g ∧ g < w'.heap.size) ∧ Below u.heap.size u w') := hid (fun u hu => by rw [en]; exact grising_any m L hr h16 u hu)
  clear h hk hmF hr h16 hok hl en
  go_enter Tryz.func58, Tryz.ntmps58
  go_wp2_with (first
    | (go_at_call 95; have := H1; obtain ⟨F1, k1, k2, k3, k4⟩ := H1.out; refine (HRs.out _ (HH.out.2.1.keep (k3.block m HH.out.2.1.lt HH.out.2.2.1))).mono ?_; rintro e w2 ⟨g, cap, rfl, hst, hb2⟩; have H2 : Hid (∃ F', WkSt F w w2 F' c (l ++ be 1 n) m L g (L.map (·.1))) := hid ⟨F1, k1.keep hb2, k2, k3.more hb2, (HH.out.2.1.keep (k3.block m HH.out.2.1.lt HH.out.2.2.1)).keep (hb2.block m (Nat.lt_of_lt_of_le HH.out.2.1.lt k3.size)), k4 m HH.out.2.1.lt HH.out.2.2.1, hst.1, fun hm => Nat.lt_irrefl _ (Nat.lt_of_lt_of_le (k1.lt g hm) hst.2.1), hst.2.2⟩; clear hst hb2 k1 k2 k3 k4)
    | (go_at_call 55; refine (pvbyte 65536 (by omega) (by omega) c _ l n (by omega) (by have := HL.out; omega) HH.out.1).mono ?_; rintro e w1 ⟨rfl, hp⟩; have H1 := hid hp.far; clear hp))
  clear hlen H1
  go_loopw [13] (fun i wr => ∃ j : Nat, j ≤ n ∧ i = .int .i64 (j : Int) ∧ ∃ F', WkSt F w wr F' c (l ++ be 1 n ++ itsB (L.take j)) m L g (L.map (·.1)))
    (fun i _ => ((n : Int) - intOf i).toNat)
  case atStart => exact ⟨0, by omega, rfl, by rw [List.take_zero]; show ∃ F', WkSt F w w2 F' c (l ++ be 1 n ++ []) m L g (L.map (·.1)); rw [List.append_nil]; exact H2.out⟩
  case round =>
    obtain ⟨j, hj, rfl, hW⟩ := hrel
    have hj0 : (0 : Int) ≤ (j : Int) := Int.natCast_nonneg _
    have HW := hid hW
    clear hW H2
    by_cases hjn : j = n
    · have hj1 : ¬ ((j : Int) < (n : Int)) := by omega
      have HE : Hid (PvTo F w wr 65536 c (l ++ (be 1 L.length ++ itsB L))) := hid (by
        obtain ⟨F', k⟩ := HW.out
        have e : l ++ be 1 n ++ itsB (L.take j) = l ++ (be 1 L.length ++ itsB L) := by
          rw [List.take_of_length_le (by rw [← HN.out]; omega), HN.out, List.append_assoc]
        rw [e] at k
        exact ⟨F', k.pv, k.fr, k.out⟩)
      clear hj hjn
      go_wp2
      go_end0
      exact ⟨rfl, HE.out⟩
    · have hj1 : (j : Int) < (n : Int) := by omega
      have hjl : j < L.length := by have := HN.out; omega
      obtain ⟨F1, hF1⟩ := HW.out
      have hcell : wr.cell? ⟨g, j, none⟩ = some (.string (L.getD j (kEm, 0)).1) := by
        obtain ⟨g', off, ha, _, hc⟩ := hF1.st.at j (L.getD j (kEm, 0)).1 (by rw [List.getElem?_map, getK_at hjl]; rfl)
        cases ha
        simpa using hc
      have hok := HH.out.2.2.2.2.2 _ (List.mem_of_getElem? (getK_at hjl))
      have hval : valK (L.getD j (kEm, 0)).1 L = (L.getD j (kEm, 0)).2 := by rw [valK, get_nth HH.out.2.2.2.1 hjl]; rfl
      have HNx : Hid (itsB (L.take (j + 1)) = itsB (L.take j) ++ itB (L.getD j (kEm, 0)) ∧ (itsB (L.take j)).length ≤ 416) := hid ⟨itsB_snoc L j hjl, itsB_take L j (fun y hy => (HH.out.2.2.2.2.2 y hy).1.2) HH.out.2.2.2.2.1⟩
      have H3 := hid hF1
      generalize L.getD j (kEm, 0) = y at hcell hok hval HNx
      have HY := hid (And.intro hok hval)
      have HJ := hid (And.intro hj hjn)
      clear hF1 hjl hok hval hj hjn
      go_wp2_with (first
        | (go_at_call 96; have := H4; obtain ⟨F2, k⟩ := H4.out; refine (pvbits 65536 (by omega) (by omega) c _ _ y.2 HY.out.1.2.2 (by have := HNx.out.2; have := HL.out; have := HY.out.1.1.2; simp only [List.length_append, be_len, data_len]; omega) k.pv).mono ?_; rintro e w5 ⟨rfl, hp⟩; have H5 := hid (k.to hp); clear hp k)
        | (go_at_call 97; have := H4; refine (HB.out _).mono ?_; rintro e w4b ⟨rfl, rfl⟩)
        | (go_at_call 56; refine (pvtext 65536 (by omega) (by omega) c _ _ y.1 (by have := HY.out.1.1.2; omega) (by have := HNx.out.2; have := HL.out; have := HY.out.1.1.2; simp only [List.length_append, be_len]; omega) H3.out.pv).mono ?_; rintro e w4 ⟨rfl, hp⟩; have H4 := hid (H3.out.to hp); clear hp; obtain ⟨F2, k⟩ := H4.out; have hlk := k.km.look1 y.1 (by have := HY.out.1.1.2; unfold maxLen; omega); rw [HY.out.2] at hlk; clear k; have HB : Hid (∀ u : World, Calls Tryz.prog 97 #[.float .f64 y.2] u fun e w' => e = .returned (.int .u64 (y.2 : Int)) ∧ w' = u) := hid (fun u => by have := bits_any y.2 u; rw [HY.out.1.2.1] at this; exact this)))
      go_roundw
      case rel => exact ⟨j + 1, by have := HJ.out; omega, by go_num, by rw [HNx.out.1]; have := H5.out; simp only [itB, List.append_assoc] at this ⊢; exact this⟩
      case measure => simp [intOf]; omega
theorem run_index_deed {l : List De} (hl : l.length = 8) (j : Nat) (hj : j < 8) (w : World) : (Instr.index 70 (.agg (deC l).toArray) (.int .i64 (j : Int))).run Tryz.prog w = .ok (.agg #[.int .i64 ((l.getD j (0, 0, 0)).1 : Int), .int .i64 (l.getD j (0, 0, 0)).2.1, .float .f64 (l.getD j (0, 0, 0)).2.2]) w := by
  obtain ⟨d0, d1, d2, d3, d4, d5, d6, d7, rfl⟩ := eight_of hl
  obtain rfl | rfl | rfl | rfl | rfl | rfl | rfl | rfl : j = 0 ∨ j = 1 ∨ j = 2 ∨ j = 3 ∨ j = 4 ∨ j = 5 ∨ j = 6 ∨ j = 7 := by omega
  all_goals kernel_rfl
theorem wl_box_agg {o : Oper} {a : Act} {w : World} {ops : Array Oper} {rest : List Oper} {Q : Exit → Act → World → Prop} (hgd : o.guard = none) (t : TypeId) (x : Operand) (ho : o.op = .box t x) (c : Array Value) (hx : a.eval x = .agg c)
    (h : wpList Tryz.prog ops Q rest (a.put o.dst (.pointer (some ⟨w.heap.size, 0, none⟩))) (w.alloc (.cells c t))) : wpList Tryz.prog ops Q (o :: rest) a w :=
  wpList_plain hgd fun _ hK => owp_box_agg t x ho c hx (hK _ _ h)
/-- While the deeds are written. -/
structure WlSt (F0 : List Nat) (w0 w : World) (F : List Nat) (c : Nat) (l : List UInt8) : Prop where
  pv : PvAt F 65536 c w l
  fr : ∀ b, b ∈ F → b ∈ F0 ∨ w0.heap.size ≤ b
  out : Out F0 w0 w
theorem WlSt.to {F0 : List Nat} {w0 w w' : World} {F : List Nat} {c : Nat} {l l' : List UInt8} (h : WlSt F0 w0 w F c l) (k : PvTo F w w' 65536 c l') : ∃ F', WlSt F0 w0 w' F' c l' := by
  obtain ⟨F', k1, k2, k3⟩ := k
  refine ⟨F', k1, fun b hb => ?_, h.out.trans k3 h.fr⟩
  rcases k2 b hb with e | e
  · exact h.fr b e
  · exact .inr (Nat.le_trans h.out.size e)
theorem WlSt.keep {F0 : List Nat} {w0 w w' : World} {F : List Nat} {c : Nat} {l : List UInt8} (h : WlSt F0 w0 w F c l) (hb : Below w.heap.size w w') : WlSt F0 w0 w' F c l := ⟨h.pv.keep hb, h.fr, h.out.more hb⟩
theorem WlSt.one {F0 : List Nat} {w0 w w' : World} {F : List Nat} {c : Nat} {l : List UInt8} {b : Nat} (h : WlSt F0 w0 w F c l) (ho : One b w w') (hb : b ∉ F) (hw : w0.heap.size ≤ b) : WlSt F0 w0 w' F c l :=
  ⟨h.pv.stay (fun k hk => ho.block k (fun e => hb (e ▸ hk))), h.fr, ho.outB h.out (.inr hw)⟩
theorem desB_snoc (l : List De) (j : Nat) (hj : j < l.length) : desB (l.take (j + 1)) = desB (l.take j) ++ dtB (deT (l.getD j (0, 0, 0))) := by
  rw [List.take_add_one, show l[j]? = some (l.getD j (0, 0, 0)) by simp [hj], desB_app]
  show _ ++ desB [l.getD j (0, 0, 0)] = _
  rw [desB_cons]
  show _ ++ (dtB _ ++ []) = _
  rw [List.append_nil]
set_option maxRecDepth 100000 in
set_option maxHeartbeats 6400000 in
theorem gwriteLast_any {F : List Nat} (c : Nat) (w : World) (l : List UInt8) (hl : l.length ≤ 1000) (h : PvAt F 65536 c w l) (ls : List De) (h8 : ls.length = 8) (hok : ∀ d, d ∈ ls → deOk d) :
    Calls Tryz.prog 59 #[.pointer (some ⟨c, 0, none⟩), .agg (deC ls).toArray] w fun e w' => e = .returned (.tuple #[]) ∧ PvTo F w w' 65536 c (l ++ desB ls) := by
  have hax := (Below.refl w.heap.size w).alloc (Nat.le_refl _) (.cells (deC ls).toArray 70)
  have H0 : Hid (WlSt F w (w.alloc (.cells (deC ls).toArray 70)) F c l) := hid ⟨h.keep hax, fun b hb => .inl hb, Out.of_below hax⟩
  have HR : Hid ((w.alloc (.cells (deC ls).toArray 70)).rangeAt w.heap.size 0 (deC ls)) := hid (fun q v hv => by
    rw [Nat.zero_add]
    exact cell_at (heap_alloc_last w _) q v hv)
  have HX := hid (And.intro hl (And.intro h8 hok))
  have HI : Hid (∀ j : Nat, j < 8 → ∀ u : World, (Instr.index 70 (.agg (deC ls).toArray) (.int .i64 (j : Int))).run Tryz.prog u = .ok (.agg #[.int .i64 ((ls.getD j (0, 0, 0)).1 : Int), .int .i64 (ls.getD j (0, 0, 0)).2.1, .float .f64 (ls.getD j (0, 0, 0)).2.2]) u) := hid (fun j hj u => run_index_deed h8 j hj u)
  clear hax h hl h8 hok
  go_enter Tryz.func59, Tryz.ntmps59
  go_wp2_with (first
    | (refine wl_box_agg rfl _ _ rfl (deC ls).toArray rfl ?_)
    | (refine wpList_load_mid rfl 70 _ rfl w.heap.size 0 rfl (deC ls) _ HR.out Tryz.underlying70 rfl (by rw [deC_len, HX.out.2.1]; kernel_rfl) ?_))
  obtain ⟨w1, e1⟩ : ∃ u, u = w.alloc (.cells (deC ls).toArray 70) := ⟨_, rfl⟩
  rw [← e1] at H0
  try rw [← e1]
  clear e1 HR
  go_loopw [9] (fun i wr => ∃ j : Nat, j ≤ 8 ∧ i = .int .i64 (j : Int) ∧ ∃ F', WlSt F w wr F' c (l ++ desB (ls.take j)))
    (fun i _ => ((8 : Int) - intOf i).toNat)
  case atStart => exact ⟨0, by omega, rfl, F, by rw [List.take_zero]; show WlSt F w w1 F c (l ++ []); rw [List.append_nil]; exact H0.out⟩
  case round =>
    obtain ⟨j, hj, rfl, hW⟩ := hrel
    have hj0 : (0 : Int) ≤ (j : Int) := Int.natCast_nonneg _
    have HW := hid hW
    clear hW H0
    by_cases hjn : j = 8
    · have hj1 : ¬ ((j : Int) < 8) := by omega
      have HE : Hid (PvTo F w wr 65536 c (l ++ desB ls)) := hid (by
        obtain ⟨F', k⟩ := HW.out
        rw [List.take_of_length_le (by rw [HX.out.2.1]; omega)] at k
        exact ⟨F', k.pv, k.fr, k.out⟩)
      clear hj hjn
      go_wp2
      go_end0
      exact ⟨rfl, HE.out⟩
    · have hj1 : (j : Int) < 8 := by omega
      have hjl : j < ls.length := by have := HX.out.2.1; omega
      have hix := HI.out j (by omega)
      obtain ⟨F1, hF1⟩ := HW.out
      have hok := HX.out.2.2 _ (List.mem_of_getElem? (show ls[j]? = some (ls.getD j (0, 0, 0)) by simp [hjl]))
      have HNx : Hid (desB (ls.take (j + 1)) = desB (ls.take j) ++ dtB (deT (ls.getD j (0, 0, 0))) ∧ (desB (ls.take j)).length ≤ 120) := hid ⟨desB_snoc ls j hjl, by
        have := desB_len (ls.take j) (fun d hd => (HX.out.2.2 d (List.mem_of_mem_take hd)).2.1)
        rw [List.length_take] at this
        omega⟩
      have H3 := hid hF1
      generalize ls.getD j (0, 0, 0) = d at hix hok HNx
      have HY : Hid (deOk d ∧ (rsT d.2.1 d.2.2).size = 9) := hid ⟨hok, rsT_size hok.2.1⟩
      have HRT : Hid (∀ u : World, Calls Tryz.prog 98 #[.agg #[.int .i64 d.2.1, .float .f64 d.2.2]] u fun e w' => e = .returned (.tuple #[.string (rsT d.2.1 d.2.2), .int .i64 (rsE d.2.1)]) ∧ Below u.heap.size u w') := hid (fun u => dresultText_any d.2.1 d.2.2 hok.2.2.2.1 u)
      have HJ := hid (And.intro hj hjn)
      clear hF1 hjl hok hj hjn
      go_wp2_with (first
        | (go_at_call 56; have := H6; obtain ⟨F2, k⟩ := H6.out; refine (pvtext 65536 (by omega) (by omega) c _ _ (rsT d.2.1 d.2.2) (by rw [HY.out.2]; omega) (by rw [HY.out.2]; have := HNx.out.2; have := HX.out.1; simp only [List.length_append, be_len]; omega) k.pv).mono ?_; rintro e w7 ⟨rfl, hp⟩; have H7 := hid (k.to hp); clear hp k)
        | (go_at_call 57; have := H5; refine (pvlong 65536 (by omega) (by omega) c _ _ d.1 (by have := HY.out.1.1; omega) (by have := HNx.out.2; have := HX.out.1; simp only [List.length_append]; omega) H5.out.1.pv).mono ?_; rintro e w6 ⟨rfl, hp⟩; have H6 := hid (H5.out.1.to hp); clear hp)
        | (go_at_call 98; have := H4; refine (HRT.out _).mono ?_; rintro e w5 ⟨rfl, hb5⟩; have H5 : Hid (WlSt F w w5 F1 c (l ++ desB (ls.take j)) ∧ DdAt w5 wr.heap.size d) := hid ⟨H4.out.1.keep hb5, H4.out.2.keep hb5⟩; clear hb5 z0 z1 z2; obtain ⟨z0, z1, z2⟩ := H5.out.2.cells)
        | (refine wl_store_dd rfl _ _ rfl wr.heap.size rfl (0, 0, 0) d rfl (heap_alloc_last wr _) ?_; intro w4 Hq; have hbx := (Below.refl wr.heap.size wr).alloc (Nat.le_refl _) (.cells #[.int .i64 0, .int .i64 0, .float .f64 0] 69); have H4 : Hid (WlSt F w w4 F1 c (l ++ desB (ls.take j)) ∧ DdAt w4 wr.heap.size d) := hid ⟨(H3.out.keep hbx).one Hq.out.2 (fun hm => Nat.lt_irrefl _ (H3.out.pv.lt _ hm)) H3.out.out.size, Hq.out.1⟩; clear Hq hbx; obtain ⟨z0, z1, z2⟩ := H4.out.2.cells))
      go_roundw
      case rel => exact ⟨j + 1, by have := HJ.out; omega, by go_num, by rw [HNx.out.1]; have := H7.out; simp only [dtB, deT, HY.out.2, List.append_assoc] at this ⊢; exact this⟩
      case measure => simp [intOf]; omega
end Go.Proofs.YtecidbdbdnnglaaGreat

/- The program's ledger as bytes: Text. -/
namespace Go.Proofs.YtecidbdbdnnglaaGreat
open Go.RowKit

/-- While a ledger is told: the writer is new. -/
structure TxSt (w0 w : World) (F : List Nat) (c : Nat) (l : List UInt8) : Prop where
  pv : PvAt F 65536 c w l
  fr : ∀ b, b ∈ F → w0.heap.size ≤ b
  bel : Below w0.heap.size w0 w
  hc : w0.heap.size ≤ c
theorem TxSt.to {w0 w w' : World} {F : List Nat} {c : Nat} {l l' : List UInt8} (h : TxSt w0 w F c l) (k : PvTo F w w' 65536 c l') : ∃ F', TxSt w0 w' F' c l' := by
  obtain ⟨F', k1, k2, k3⟩ := k
  refine ⟨F', k1, fun b hb => ?_, Out.low h.bel k3 (Nat.le_refl _) h.fr, h.hc⟩
  rcases k2 b hb with e | e
  · exact h.fr b e
  · exact Nat.le_trans h.bel.size e
theorem TxSt.keep {w0 w w' : World} {F : List Nat} {c : Nat} {l : List UInt8} (h : TxSt w0 w F c l) (hb : Below w.heap.size w w') : TxSt w0 w' F c l := ⟨h.pv.keep hb, h.fr, h.bel.trans (hb.mono h.bel.size), h.hc⟩
theorem tx_new {w w' : World} (h : PwAt 65536 w.heap.size w w' []) : ∃ F, TxSt w w' F w.heap.size [] := by
  obtain ⟨⟨v, hv⟩, hb⟩ := h
  refine ⟨_, ⟨v, hv, rfl⟩, fun b hm => ?_, hb, Nat.le_refl _⟩
  rcases List.mem_cons.1 hm with e | hm
  · omega
  · have := (hv.own.lt b (by simpa using hm)).1
    omega
theorem tx_done {w0 w : World} {F : List Nat} {c : Nat} {l : List UInt8} (h : TxSt w0 w F c l) : Calls Tryz.prog 60 #[.pointer (some ⟨c, 0, none⟩)] w fun e w' => e = .returned (.tuple #[.string ⟨l.toArray⟩, .int .i64 0]) ∧ Below w0.heap.size w0 w' := by
  obtain ⟨v, hv, _⟩ := h.pv
  refine (pwdone 65536 c w w l ⟨⟨v, hv⟩, Below.refl _ _⟩).mono fun _ _ ⟨he, hb⟩ => ⟨he, h.bel.trans (hb.mono h.hc)⟩
theorem mem_nat {l : List Int} (h : memB l = true) (j : Nat) (hj : j < l.length) : ∃ x : Nat, l.getD j 0 = (x : Int) ∧ x < 16 ∧ (l.getD j 0).toNat = x := by
  have := mem_range h j hj
  exact ⟨(l.getD j 0).toNat, by omega, by omega, rfl⟩
set_option maxRecDepth 100000 in
set_option maxHeartbeats 12800000 in
theorem gtext_any {w : World} {g m : Nat} {am an : Option Addr} {cm cn : Nat} {s : Ls} (h : LdA w g m am an cm cn s) :
    Calls Tryz.prog 13 #[.pointer (some ⟨g, 0, none⟩)] w fun e w' => e = .returned (.string (lgT s)) ∧ Below w.heap.size w w' := by
  have H := hid h
  obtain ⟨n, en⟩ : ∃ n, n = s.nxt.length := ⟨_, rfl⟩
  obtain ⟨T, eT⟩ : ∃ T, T = textC (s.ep : Int) s.mem := ⟨_, rfl⟩
  have HN : Hid (n = s.nxt.length ∧ n ≤ 10 ∧ T.size ≤ 14 ∧ T = textC (s.ep : Int) s.mem) := hid ⟨en, by have := h.pos; omega, by rw [eT, textC_size h.ok.cf]; have := h.pos; omega, eT⟩
  have HC : Hid (∀ u : World, LdA u g m am an cm cn s → Calls Tryz.prog 54 #[.agg #[.int .i64 (s.ep : Int), .slice am s.mem.length cm]] u fun e w' => e = .returned (.tuple #[.string T, .int .i64 (textE (s.ep : Int) s.mem)]) ∧ Below u.heap.size u w') := hid (fun u hu => by rw [eT]; exact ctext_any _ am s.mem.length cm s.mem rfl (by have := h.pos; unfold maxLen; omega) u hu.im)
  have hn10 : n ≤ 10 := HN.out.2.1
  have HK : Hid (∀ u : World, Below w.heap.size w u → u.cell? ⟨g, 2, none⟩ = some (.slice an n cn)) := hid (fun u hu => by rw [en]; exact (h.keep hu).c2)
  generalize textE (s.ep : Int) s.mem = te at HC
  clear h en eT
  go_enter Tryz.func13, Tryz.ntmps13
  go_wp2_with (first
    | (go_at_call 56; have := H4; obtain ⟨F4, k⟩ := H4.out; refine (pvtext 65536 (by omega) (by omega) c _ _ T (by have := HN.out.2.2.1; omega) (by have := HN.out.2.2.1; simp only [List.length_append, be_len, List.length_nil]; omega) k.pv).mono ?_; rintro e w5 ⟨rfl, hp⟩; have H5 := hid (k.to hp); clear hp; obtain ⟨F5, k5⟩ := H5.out; clear c2; have c2 := HK.out _ k5.bel; clear k k5)
    | (go_at_call 55; have := H5; obtain ⟨F5, k⟩ := H5.out; refine (pvbyte 65536 (by omega) (by omega) c _ _ n (by omega) (by have := HN.out.2.2.1; simp only [List.length_append, be_len, List.length_nil, data_len]; omega) k.pv).mono ?_; rintro e w6 ⟨rfl, hp⟩; have H6 := hid (k.to hp); clear hp; obtain ⟨F6, k6⟩ := H6.out; clear c2; have c2 := HK.out _ k6.bel; clear k k6)
    | (go_at_call 55; have := H3; obtain ⟨F3, k⟩ := H3.out; refine (pvbyte 65536 (by omega) (by omega) c _ [] 76 (by omega) (by simp) k.pv).mono ?_; rintro e w4 ⟨rfl, hp⟩; have H4 := hid (k.to hp); clear hp; obtain ⟨F4, k4⟩ := H4.out; have c2 := HK.out _ k4.bel; clear k k4)
    | (go_at_call 54; have := H2; obtain ⟨F2, k⟩ := H2.out; refine (HC.out _ (H.out.keep k.bel)).mono ?_; rintro e w3 ⟨rfl, hb⟩; have H3 : Hid (∃ F, TxSt w w3 F c []) := hid ⟨F2, k.keep hb⟩; clear hb k c0 c1)
    | (go_at_call 53; refine (pwnew 65536 (by omega) _).mono ?_; rintro e w2 ⟨rfl, hp⟩; obtain ⟨c, ec⟩ : ∃ c, c = w.heap.size := ⟨_, rfl⟩; have H2 : Hid (∃ F, TxSt w w2 F c []) := hid (by rw [ec]; exact tx_new hp); clear hp; rw [← ec]; clear ec; obtain ⟨F2, k2⟩ := H2.out; have c0 := (H.out.keep k2.bel).c0; have c1 := (H.out.keep k2.bel).c1; clear k2)
    | (go_at_call 52; refine (gisNone_any H.out).mono ?_; rintro e w1 ⟨rfl, hw⟩; replace hw := hw.symm; subst hw))
  clear c2
  obtain ⟨P, eP⟩ : ∃ P, P = [] ++ be 1 76 ++ (be 2 T.size ++ T.data.toList) ++ be 1 n := ⟨_, rfl⟩
  rw [← eP] at H6
  have HP : Hid (P = be 1 76 ++ (be 2 T.size ++ T.data.toList) ++ be 1 n ∧ P.length ≤ 20) := hid ⟨by rw [eP, List.nil_append], by rw [eP]; have := HN.out.2.2.1; simp only [List.length_append, be_len, List.length_nil, data_len]; omega⟩
  have hn2 : (n : Int) ≤ 9223372036854775807 := by omega
  clear eP
  go_loopw [38] (fun i wr => ∃ j : Nat, j ≤ n ∧ i = .int .i64 (j : Int) ∧ ∃ F', TxSt w wr F' c (P ++ memBytes (s.nxt.take j)))
    (fun i _ => ((n : Int) - intOf i).toNat)
  case atStart => exact ⟨0, by omega, rfl, by rw [List.take_zero]; show ∃ F', TxSt w w6 F' c (P ++ []); rw [List.append_nil]; exact H6.out⟩
  case round =>
    obtain ⟨j, hj, rfl, hW⟩ := hrel
    have hj0 : (0 : Int) ≤ (j : Int) := Int.natCast_nonneg _
    have HW := hid hW
    clear hW H6
    by_cases hjn : j = n
    · have hj1 : ¬ ((j : Int) < (n : Int)) := by omega
      obtain ⟨Q, eQ⟩ : ∃ Q, Q = P ++ memBytes s.nxt := ⟨_, rfl⟩
      have HQ : Hid (Q = P ++ memBytes s.nxt ∧ Q.length ≤ 30) := hid ⟨eQ, by rw [eQ, List.length_append, memBytes_len]; have := HP.out.2; have := HN.out; omega⟩
      have HWa : Hid (∃ F', TxSt w wr F' c Q) := hid (by
        have := HW.out
        rw [List.take_of_length_le (by have := HN.out.1; omega), ← eQ] at this
        exact this)
      obtain ⟨F7, k7⟩ := HWa.out
      have c3 := (H.out.keep k7.bel).c3
      have HD : Hid (s.dn < 4294967296) := hid (by have := H.out.ok.hi; have := H.out.ok.ep; omega)
      clear hj hjn eQ k7 HW
      go_wp2_with (first
        | (go_at_call 60; have := H10; obtain ⟨F10, k⟩ := H10.out; refine (tx_done k).mono ?_; rintro e w11 ⟨rfl, hb⟩; have H11 := hid hb; clear hb k)
        | (go_at_call 59; have := H9; obtain ⟨F9, k⟩ := H9.out; refine (gwriteLast_any c _ _ (by have := HQ.out.2; have := itsB_len s.its (fun y hy => (H.out.ok.keys y hy).1.2); have := H.out.ok.few; simp only [List.length_append, be_len]; omega) k.pv s.lst H.out.ok.eight H.out.ok.deeds).mono ?_; rintro e w10 ⟨rfl, hp⟩; have H10 := hid (k.to hp); clear hp k)
        | (have := H9; refine wpList_load_mid rfl 70 _ rfl g 5 rfl (deC s.lst) _ HR9.out Tryz.underlying70 rfl (by rw [deC_len, H.out.ok.eight]; kernel_rfl) ?_)
        | (go_at_call 58; have := H8; obtain ⟨F8, k⟩ := H8.out; refine (gwriteKeys_any c _ _ (by have := HQ.out.2; simp only [List.length_append, be_len]; omega) k.pv m s.its (H.out.keep k.bel).km (fun hm => by have := k.fr m hm; have := H.out.km.lt; omega) H.out.ok.rise H.out.ok.few H.out.ok.keys).mono ?_; rintro e w9 ⟨rfl, hp⟩; have H9 := hid (k.to hp); clear hp; obtain ⟨F9, k9⟩ := H9.out; have HR9 := hid (H.out.keep k9.bel).deeds24; clear k k9 c4)
        | (go_at_call 57; obtain ⟨F7, k⟩ := HWa.out; refine (pvlong 65536 (by omega) (by omega) c _ Q s.dn HD.out (by have := HQ.out.2; omega) k.pv).mono ?_; rintro e w8 ⟨rfl, hp⟩; have H8 := hid (k.to hp); clear hp c3; obtain ⟨F8, k8⟩ := H8.out; have c4 := (H.out.keep k8.bel).c4; clear k k8))
      go_ret
      refine ⟨?_, H11.out⟩
      have e9 : Q ++ (be 4 s.dn ++ (be 1 s.its.length ++ (itsB s.its ++ desB s.lst))) = lgL s := by
        rw [HQ.out.1, HP.out.1, HN.out.1, HN.out.2.2.2, lgL]
        simp only [List.append_assoc]
      exact congrArg (fun L : List UInt8 => Ending.returned (Value.string ⟨L.toArray⟩)) e9
    · have hj1 : (j : Int) < (n : Int) := by omega
      have hjl : j < s.nxt.length := by have := HN.out.1; omega
      obtain ⟨F1, hF1⟩ := HW.out
      obtain ⟨x, hx, hx16, hxn⟩ := mem_nat H.out.ok.nx j hjl
      obtain ⟨ga, off, rfl, _, hc⟩ := (H.out.keep hF1.bel).ix.at j _ (getD_some hjl)
      rw [hx] at hc
      have HNx : Hid (memBytes (s.nxt.take (j + 1)) = memBytes (s.nxt.take j) ++ be 1 x ∧ (memBytes (s.nxt.take j)).length ≤ 10) := hid ⟨by rw [memBytes_snoc s.nxt j hjl, hxn], by rw [memBytes_len, List.length_take]; have := HN.out; omega⟩
      have H3 := hid hF1
      have HJ := hid (And.intro hj (And.intro hjn hx16))
      clear hF1 hjl hj hjn hx hx16 hxn
      go_wp2_with (go_at_call 55; refine (pvbyte 65536 (by omega) (by omega) c _ _ x (by have := HJ.out.2.2; omega) (by have := HNx.out.2; have := HP.out.2; simp only [List.length_append]; omega) H3.out.pv).mono ?_; rintro e w4 ⟨rfl, hp⟩; have H4 := hid (H3.out.to hp); clear hp)
      go_roundw
      case rel => exact ⟨j + 1, by have := HJ.out; omega, by go_num, by rw [HNx.out.1]; have := H4.out; simp only [List.append_assoc] at this ⊢; exact this⟩
      case measure => simp [intOf]; omega
end Go.Proofs.YtecidbdbdnnglaaGreat
