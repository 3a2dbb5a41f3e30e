/- The contracts of package pack's writers of eight bytes and of texts. -/
import Derived.Test.YtecidbdbdnnglaaGreatPkNM
import Derived.Lib.AppendStr
import Derived.Deep.AppendSrc
namespace Go.Proofs.YtecidbdbdnnglaaGreat
open Go.RowKit

/-- 'append(b, s...)' of a string onto a slice of bytes that the call owns: where the new slice lies. -/
theorem append_str (w : World) (base : Nat) (ty : TypeId) (i : TypeInfo) (hi : Tryz.prog.info? 5 = some i) (hz : i.zero = some (.int .u8 0)) (hsize : i.size = 1) (hby : i.bytes = 1)
    (v : Value) (n : Nat) (xs : List Value) (hown : w.ownsRow base 5 1 v n xs) (s : ByteArray) (hbytes : n + s.size ≤ 140737488355328) (hbase : base ≤ w.heap.size) :
    ∃ v' w', (Builtin.append_ #[124, 9] ty #[v, .string s]).run Tryz.prog w = .ok v' w' ∧ w'.ownsRow base 5 1 v' (n + s.size) (xs ++ bC s.data.toList) ∧ w.grownBy w' v.ownBlock ∧ (v'.ownBlock = v.ownBlock ∨ v'.ownBlock = some w.heap.size) := by
  obtain ⟨v', w', hr, h2, h3, h4⟩ := Lib.run_append_own_string (P := Tryz.prog) w base 124 9 ty 5 i Tryz.underlying124 Tryz.underlying9 hi hz hsize hby v n xs hown s (by unfold maxLen; omega) hbytes hbase
  refine ⟨v', w', hr, h2, h3, ?_⟩
  have hsrc := Src.ofString (P := Tryz.prog) w (tx := 9) Tryz.underlying9 s
  rcases hown.2 with ⟨rfl, rfl⟩ | ⟨g, cap, cur, rfl, hbg, hg, hnc, hcm, hcs, htake⟩
  · by_cases h0 : s.size = 0
    · have := h4.2 ⟨rfl, h0⟩
      subst this
      exact .inl rfl
    · have hgr := run_append_grow_src (P := Tryz.prog) w 124 9 ty 5 i (.int .u8 0) Tryz.underlying124 hi hz none 0 0 [] (by simpa using run_firstCells_none w.drew i.size 0 0 0) (.string s) s.size (byteCells s) (by rw [hsize]; exact hsrc) (by omega) (by omega) (by
        rw [hby, Nat.zero_add, nextslicecap_zero (by omega)]; omega)
      rw [hr] at hgr
      cases hgr
      exact .inr rfl
  · by_cases hroom : n + s.size ≤ cap
    · have hcz : cur.size = cap := by simpa using hcs
      have hrm := run_append_room_src (P := Tryz.prog) w 124 9 ty 5 i Tryz.underlying124 hi g 0 n cap (.string s) s.size (byteCells s) (by rw [hsize]; exact hsrc) hroom
        (fun j hj => by rw [byteCells_length] at hj; rw [hsize]; simp [World.cell?, hg]; omega) (fun j hj => by simp [World.frozen?, hg])
      rw [hr] at hrm
      cases hrm
      exact .inl rfl
    · have hgr := run_append_grow_src (P := Tryz.prog) w 124 9 ty 5 i (.int .u8 0) Tryz.underlying124 hi hz (some ⟨g, 0, none⟩) n cap xs
        (by rw [hsize]; exact run_firstCells_some w.drew 1 n ⟨g, 0, none⟩ n cap xs hown.1 (fun j u hj => hown.cells (g := g) rfl j u hj)) (.string s) s.size (byteCells s) (by rw [hsize]; exact hsrc) (by omega) (by omega) (by
        rw [hby]
        have := nextslicecap_le (need := n + s.size) (old := cap) (by omega)
        omega)
      rw [hr] at hgr
      cases hgr
      exact .inr rfl

theorem wpList_append_str (w : World) {ops : Array Oper} {rest : List Oper} {o : Oper} {a : Act} {Q : Exit → Act → World → Prop} (hgd : o.guard = none) (sl x : Operand)
    (ho : o.op = .call { callee := .builtin .append, args := #[sl, x], argTypes := #[124, 9] })
    (base : Nat) (i : TypeInfo) (hi : Tryz.prog.info? 5 = some i) (hz : i.zero = some (.int .u8 0)) (hsize : i.size = 1) (hby : i.bytes = 1)
    (v : Value) (n : Nat) (xs : List Value) (hs : a.eval sl = v) (hown : w.ownsRow base 5 1 v n xs) (s : ByteArray) (hx : a.eval x = .string s)
    (hbytes : n + s.size ≤ 140737488355328) (hbase : base ≤ w.heap.size)
    (h : ∀ v' w', w'.ownsRow base 5 1 v' (n + s.size) (xs ++ bC s.data.toList) → w.grownBy w' v.ownBlock → (v'.ownBlock = v.ownBlock ∨ v'.ownBlock = some w.heap.size) → wpList Tryz.prog ops Q rest (a.put o.dst v') w') : wpList Tryz.prog ops Q (o :: rest) a w := by
  refine wpList_plain hgd fun K hK => ?_
  obtain ⟨v', w', hr, h2, h3, h4⟩ := append_str w base o.type i hi hz hsize hby v n xs hown s hbytes hbase
  unfold Oper.wp execOp
  simp only [ho, resolve, invoke, builtin, Sem.run_bind, Sem.run_pure, Result.andThen_ok, List.map_toArray, List.map_cons, List.map_nil, hs, hx, hr]
  exact hK _ _ (h v' w' h2 h3 h4)

/-- The error behind eight bytes; the bytes. -/
def bE (lim : Int) (l : List UInt8) (er : Int) : Int := adm lim l.length er true 8
def bL (lim : Int) (l : List UInt8) (er : Int) (n : Nat) : List UInt8 := if bE lim l er = 0 then l ++ be 8 n else l

set_option maxRecDepth 100000 in
set_option maxHeartbeats 800000 in
theorem wbits_yes (b : Nat) (v : Value) (lim : Int) (l : List UInt8) (er : Int) (m : Nat) (w : World) (h : WrAt w b v lim l er)
    (h0 : 0 ≤ lim) (h1 : lim ≤ 9223372036854775807) (hl : l.length + 8 ≤ 140737488355328) (n1 : m < 18446744073709551616) (hd : adm lim l.length er true 8 = 0) :
    Calls Tryz.prog 96 #[.pointer (some ⟨b, 0, none⟩), .int .u64 m] w fun e w' => e = .returned (.tuple #[]) ∧ ∃ v', WrAt w' b v' lim (l ++ be 8 m) 0 ∧ Kept b v.ownBlock w w' ∧ Moved w v v' := by
  have ha := admits_any b v lim l er true 8 w h h0 h1 (by omega)
  have hdd : decide (adm lim l.length er true 8 = 0) = true := by simpa using hd
  rw [hdd, hd] at ha
  have HA := hid ha
  have HL := hid hl
  have HM := hid n1
  clear ha h hd hdd hl n1 h0 h1
  go_enter Tryz.func96, Tryz.ntmps96
  go_wp2_with fail
  refine HA.out.mono ?_
  rintro e w1 ⟨rfl, hr, hk⟩
  have HR := hid hr
  have HK := hid hk
  clear hr hk
  go_wp2_with fail
  refine (put_any b v lim l 0 m 8 w1 HR.out (by omega) HM.out HL.out).mono ?_
  rintro e w2 ⟨rfl, v', hv, hk2, hm⟩
  have HV := hid hv
  have HK2 := hid (And.intro hk2 hm)
  clear hv hk2 hm
  go_wp2
  go_end0
  exact ⟨rfl, v', HV.out, (kept_none HK.out).trans HK2.out.1 (.inl rfl), (Moved.refl w v).trans HK2.out.2 HK.out.size⟩

set_option maxHeartbeats 800000 in
theorem wbits_no (b : Nat) (v : Value) (lim : Int) (l : List UInt8) (er : Int) (m : Nat) (w : World) (h : WrAt w b v lim l er)
    (h0 : 0 ≤ lim) (h1 : lim ≤ 9223372036854775807) (hl : l.length + 8 ≤ 140737488355328) (E : Int) (hE : adm lim l.length er true 8 = E) (hd : E ≠ 0) :
    Calls Tryz.prog 96 #[.pointer (some ⟨b, 0, none⟩), .int .u64 m] w fun e w' => e = .returned (.tuple #[]) ∧ ∃ v', WrAt w' b v' lim l E ∧ Kept b v.ownBlock w w' ∧ Moved w v v' := by
  have ha := admits_any b v lim l er true 8 w h h0 h1 (by omega)
  have hdd : decide (E = 0) = false := by simpa using hd
  rw [hE, hdd] at ha
  have HA := hid ha
  clear ha h hE hd hdd hl h0 h1
  go_enter Tryz.func96, Tryz.ntmps96
  go_wp2_with fail
  refine HA.out.mono ?_
  rintro e w1 ⟨rfl, hr, hk⟩
  have HR := hid hr
  have HK := hid hk
  clear hr hk
  go_wp2
  go_end0
  exact ⟨rfl, v, HR.out, kept_none HK.out, Moved.refl _ _⟩

theorem wbits_any (b : Nat) (v : Value) (lim : Int) (l : List UInt8) (er : Int) (m : Nat) (w : World) (h : WrAt w b v lim l er)
    (h0 : 0 ≤ lim) (h1 : lim ≤ 9223372036854775807) (hl : l.length + 8 ≤ 140737488355328) (n1 : m < 18446744073709551616) :
    Calls Tryz.prog 96 #[.pointer (some ⟨b, 0, none⟩), .int .u64 m] w fun e w' => e = .returned (.tuple #[]) ∧ ∃ v', WrAt w' b v' lim (bL lim l er m) (bE lim l er) ∧ Kept b v.ownBlock w w' ∧ Moved w v v' := by
  unfold bL bE
  by_cases hd : adm lim l.length er true 8 = 0
  · simpa [hd] using wbits_yes b v lim l er m w h h0 h1 hl n1 hd
  · simpa [hd] using wbits_no b v lim l er m w h h0 h1 hl _ rfl hd

/-- The error behind a text; the bytes. -/
def xE (lim : Int) (l : List UInt8) (er : Int) (s : ByteArray) : Int := adm lim l.length er (decide (s.size ≤ 65535)) (2 + s.size)
def xL (lim : Int) (l : List UInt8) (er : Int) (s : ByteArray) : List UInt8 := if xE lim l er s = 0 then l ++ (be 2 s.size ++ s.data.toList) else l

theorem put_text {w1 w2 : World} {b : Nat} {v v' : Value} {lim : Int} {L : List UInt8} {er : Int} {s : ByteArray} (hR : WrAt w1 b v lim L er)
    (hown : w2.ownsRow (b + 1) 5 1 v' (L.length + s.size) (bC L ++ bC s.data.toList)) (hgrow : w1.grownBy w2 v.ownBlock) (hat : v'.ownBlock = v.ownBlock ∨ v'.ownBlock = some w1.heap.size) :
    WrAt (w2.setCell ⟨b, 1, none⟩ v') b v' lim (L ++ s.data.toList) er ∧ Kept b v.ownBlock w1 (w2.setCell ⟨b, 1, none⟩ v') ∧ Moved w1 v v' := by
  have hbv : some b ≠ v.ownBlock := fun e => by have := (hR.own.lt b e.symm).1; omega
  have hb1 : w2.heap[b]? = some (.cells #[.int .i64 lim, v, .int .i64 er] 130 (0, 0)) := by
    rw [hgrow.block b hR.lt hbv]
    exact hR.blk
  refine ⟨WrAt.bytes hb1 ?_, ?_, ?_⟩
  · rw [bC_app, List.length_append, Array.length_toList]; exact hown
  · exact ((Kept.refl b v.ownBlock w1).grown hgrow (.inl rfl)).setCell _ _
  · rcases hat with h | h
    · exact .inl h
    · exact .inr ⟨_, h, Nat.le_refl _⟩

set_option maxRecDepth 100000 in
set_option maxHeartbeats 1600000 in
theorem wtext_yes (b : Nat) (v : Value) (lim : Int) (l : List UInt8) (er : Int) (s : ByteArray) (w : World) (h : WrAt w b v lim l er)
    (h0 : 0 ≤ lim) (h1 : lim ≤ 9223372036854775807) (hs : s.size ≤ 65535) (hl : l.length + 8 ≤ 140737488355328) (hl2 : l.length + (2 + s.size) ≤ 140737488355328) (hd : adm lim l.length er true (2 + s.size) = 0) :
    Calls Tryz.prog 56 #[.pointer (some ⟨b, 0, none⟩), .string s] w fun e w' => e = .returned (.tuple #[]) ∧ ∃ v', WrAt w' b v' lim (l ++ (be 2 s.size ++ s.data.toList)) 0 ∧ Kept b v.ownBlock w w' ∧ Moved w v v' := by
  obtain ⟨i0, hi0, hz0, hz1, hz2⟩ := info_parts Tryz.info5
  have ha := admits_any b v lim l er true (2 + s.size) w h h0 h1 (by omega)
  have hdd : decide (adm lim l.length er true (2 + s.size) = 0) = true := by simpa using hd
  rw [hdd, hd] at ha
  have HA := hid ha
  have HL := hid hl
  have HL2 := hid hl2
  have hsi : (s.size : Int) ≤ 65535 := by omega
  clear ha h hd hdd hl hl2 h0 h1 hs
  go_enter Tryz.func56, Tryz.ntmps56
  go_wp2_with fail
  refine HA.out.mono ?_
  rintro e w1 ⟨rfl, hr, hk⟩
  have HR := hid hr
  have HK := hid hk
  clear hr hk
  go_wp2_with fail
  refine (put_any b v lim l 0 s.size 2 w1 HR.out (by omega) (by omega) HL.out).mono ?_
  rintro e w2 ⟨rfl, v2, hv, hk2, hm⟩
  have HV := hid hv
  have HK2 := hid (And.intro ((kept_none HK.out).trans hk2 (.inl rfl)) ((Moved.refl w v).trans hm HK.out.size))
  have c1 := hv.c1
  have f1 := hv.fr 1
  have hlt := hv.lt
  have hbv : some b ≠ v2.ownBlock := fun e => by have := (hv.own.lt b e.symm).1; omega
  have ho := hv.own
  have hb2 : (l ++ be 2 s.size).length + s.size ≤ 140737488355328 := by rw [List.length_append, be_len]; have := HL2.out; omega
  clear hv hk2 hm
  go_wp2_with (at_builtin; refine wpList_append_str _ rfl _ _ rfl (b + 1) i0 hi0 hz0 hz1 hz2 v2 (l ++ be 2 s.size).length (bC (l ++ be 2 s.size)) rfl ho s rfl hb2 (by omega) ?_)
  intro v3 w3 hown3 hgrow hat
  rw [← List.length_append] at hown3
  have HS := hid (put_text HV.out hown3 hgrow hat)
  have cz : w3.cell? ⟨b, 1, none⟩ = some v2 := (hgrow.cell_far ⟨b, 1, none⟩ hlt hbv).trans c1
  have fz : w3.frozen? ⟨b, 1, none⟩ = false := (hgrow.frozen_far ⟨b, 1, none⟩ hlt hbv).trans f1
  obtain ⟨av, nv, capv, hv3⟩ : ∃ av nv capv, v3 = .slice av nv capv := by
    rcases hown3.2 with ⟨hv, _⟩ | ⟨g, cap, cur, hv, _⟩
    · exact ⟨_, _, _, hv⟩
    · exact ⟨_, _, _, hv⟩
  rw [hv3] at HS ⊢
  clear hown3 hgrow hat ho hv3
  go_wp2
  go_end0
  refine ⟨rfl, _, ?_, HK2.out.1.trans HS.out.2.1 HK2.out.2, HK2.out.2.trans HS.out.2.2 HK2.out.1.size⟩
  rw [← List.append_assoc]
  exact HS.out.1

set_option maxHeartbeats 800000 in
theorem wtext_no (b : Nat) (v : Value) (lim : Int) (l : List UInt8) (er : Int) (s : ByteArray) (w : World) (h : WrAt w b v lim l er)
    (h0 : 0 ≤ lim) (h1 : lim ≤ 9223372036854775807) (hs : s.size ≤ 9223372036854775805) (hl : l.length + 8 ≤ 140737488355328) (E : Int) (r : Bool) (hr : decide ((s.size : Int) ≤ 65535) = r) (hE : adm lim l.length er r (2 + s.size) = E) (hd : E ≠ 0) :
    Calls Tryz.prog 56 #[.pointer (some ⟨b, 0, none⟩), .string s] w fun e w' => e = .returned (.tuple #[]) ∧ ∃ v', WrAt w' b v' lim l E ∧ Kept b v.ownBlock w w' ∧ Moved w v v' := by
  have ha := admits_any b v lim l er r (2 + s.size) w h h0 h1 (by omega)
  have hdd : decide (E = 0) = false := by simpa using hd
  rw [hE, hdd] at ha
  have HA := hid ha
  clear ha h hE hd hdd hl h0 h1
  go_enter Tryz.func56, Tryz.ntmps56
  go_wp2_with fail
  refine HA.out.mono ?_
  rintro e w1 ⟨rfl, hr, hk⟩
  have HR := hid hr
  have HK := hid hk
  clear hr hk
  go_wp2
  go_end0
  exact ⟨rfl, v, HR.out, kept_none HK.out, Moved.refl _ _⟩

theorem wtext_any (b : Nat) (v : Value) (lim : Int) (l : List UInt8) (er : Int) (s : ByteArray) (w : World) (h : WrAt w b v lim l er)
    (h0 : 0 ≤ lim) (h1 : lim ≤ 9223372036854775807) (hs : s.size ≤ 9223372036854775805) (hl : l.length + 8 ≤ 140737488355328) (hl2 : xE lim l er s = 0 → l.length + (2 + s.size) ≤ 140737488355328) :
    Calls Tryz.prog 56 #[.pointer (some ⟨b, 0, none⟩), .string s] w fun e w' => e = .returned (.tuple #[]) ∧ ∃ v', WrAt w' b v' lim (xL lim l er s) (xE lim l er s) ∧ Kept b v.ownBlock w w' ∧ Moved w v v' := by
  unfold xL
  by_cases hd : xE lim l er s = 0
  · have hs2 : s.size ≤ 65535 := by
      by_cases h2 : s.size ≤ 65535
      · exact h2
      · exfalso
        unfold xE adm at hd
        simp [h2] at hd
        split at hd <;> simp_all
    have hd2 : adm lim l.length er true (2 + s.size) = 0 := by
      unfold xE at hd
      simpa [hs2] using hd
    rw [if_pos hd, hd]
    exact wtext_yes b v lim l er s w h h0 h1 hs2 hl (hl2 hd) hd2
  · rw [if_neg hd]
    exact wtext_no b v lim l er s w h h0 h1 hs hl _ (decide (s.size ≤ 65535)) (by simp; omega) rfl hd

end Go.Proofs.YtecidbdbdnnglaaGreat
