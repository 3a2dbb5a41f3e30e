/- The document's writer, as the walks of its users see it: what lies in it, numbers, bits, texts put to it, its end. -/
import Derived.Test.YtecidbdbdnnglaaGreatMwTM
import Derived.Test.YtecidbdbdnnglaaGreatBaB
namespace Go.Proofs.YtecidbdbdnnglaaGreat
open Go.RowKit

/-- The document's writer at block c, with room for lim, and l in it; nothing below c has turned since w0. -/
def TxAt (lim : Int) (c : Nat) (w0 w : World) (l : List UInt8) : Prop := (∃ v, MwAt w c v lim l 0) ∧ Below c w0 w
theorem wLx (lim : Int) (l : List UInt8) (s n : Nat) (hn : n < 256 ^ s) (hl : (l.length : Int) + s ≤ lim) : wL lim l 0 s (n : Int) = l ++ be s n ∧ wE lim l 0 s (n : Int) = 0 := by
  have h : adm lim l.length 0 (inR s (n : Int)) s = 0 := by
    have hi : inR s (n : Int) = true := by
      unfold inR
      exact decide_eq_true ⟨Int.natCast_nonneg _, by exact_mod_cast hn⟩
    rw [hi]
    unfold adm
    rw [if_pos rfl, if_pos rfl, if_neg (by omega)]
  exact ⟨by rw [wL, if_pos h, Int.toNat_natCast], by rw [wE, h]⟩
theorem txnum (lim : Int) (h0 : 0 ≤ lim) (h1 : lim ≤ 4294967296) (c : Nat) (w0 w : World) (l : List UInt8) (n s : Nat) (hs : s ≤ 4) (hn : n < 256 ^ s) (hl : (l.length : Int) + s ≤ lim) (h : TxAt lim c w0 w l) :
    Calls Tryz.prog 73 #[.pointer (some ⟨c, 0, none⟩), .int .i64 (n : Int), .int .i64 (s : Int)] w fun e w' => e = .returned (.tuple #[]) ∧ TxAt lim c w0 w' (l ++ be s n) := by
  obtain ⟨⟨v, hv⟩, hb⟩ := h
  refine (mnum_w c v lim l 0 n s hs w hv h0 (by omega) (by omega)).mono ?_
  rintro e w' ⟨rfl, v', h', hk, _⟩
  rw [(wLx lim l s n hn hl).1, (wLx lim l s n hn hl).2] at h'
  exact ⟨rfl, ⟨v', h'⟩, hb.trans (hk.below (Nat.le_of_lt hv.lt) (Nat.le_refl _) (fun g hg => by have := (hv.own.lt g hg).1; omega))⟩
theorem txnew (lim : Int) (h0 : 0 ≤ lim) (w : World) : Calls Tryz.prog 72 #[.int .i64 lim] w fun e w' => e = .returned (.pointer (some ⟨w.heap.size, 0, none⟩)) ∧ TxAt lim w.heap.size w w' [] := by
  refine (mnew_any lim w).mono ?_
  rintro e w' ⟨rfl, rfl⟩
  rw [show max lim 0 = lim by omega]
  exact ⟨rfl, ⟨_, ⟨heap_alloc_last w _, ⟨rfl, .inl ⟨rfl, rfl⟩⟩⟩⟩, (Below.refl _ _).alloc (Nat.le_refl _) _⟩
theorem xLx (lim : Int) (l : List UInt8) (s : ByteArray) (hs : s.size ≤ 65535) (hl : (l.length : Int) + (2 + s.size) ≤ lim) : xL lim l 0 s = l ++ (be 2 s.size ++ s.data.toList) ∧ xE lim l 0 s = 0 := by
  have h : xE lim l 0 s = 0 := by
    unfold xE adm
    rw [if_pos rfl, decide_eq_true hs, if_pos rfl, if_neg (by omega)]
  exact ⟨by rw [xL, if_pos h], h⟩
theorem txtext (lim : Int) (h0 : 0 ≤ lim) (h1 : lim ≤ 4294967296) (c : Nat) (w0 w : World) (l : List UInt8) (s : ByteArray) (hs : s.size ≤ 65535) (hl : (l.length : Int) + (2 + s.size) ≤ lim) (h : TxAt lim c w0 w l) :
    Calls Tryz.prog 75 #[.pointer (some ⟨c, 0, none⟩), .string s] w fun e w' => e = .returned (.tuple #[]) ∧ TxAt lim c w0 w' (l ++ (be 2 s.size ++ s.data.toList)) := by
  obtain ⟨⟨v, hv⟩, hb⟩ := h
  refine (mtext_w c v lim l 0 s w hv h0 (by omega) (by omega)).mono ?_
  rintro e w' ⟨rfl, v', h', hk, _⟩
  rw [(xLx lim l s hs hl).1, (xLx lim l s hs hl).2] at h'
  exact ⟨rfl, ⟨v', h'⟩, hb.trans (hk.below (Nat.le_of_lt hv.lt) (Nat.le_refl _) (fun g hg => by have := (hv.own.lt g hg).1; omega))⟩
theorem bLx (lim : Int) (l : List UInt8) (n : Nat) (hl : (l.length : Int) + 8 ≤ lim) : bL lim l 0 n = l ++ be 8 n ∧ bE lim l 0 = 0 := by
  have h : bE lim l 0 = 0 := by
    unfold bE adm
    rw [if_pos rfl, if_pos rfl, if_neg (by omega)]
  exact ⟨by rw [bL, if_pos h], h⟩
theorem txbits (lim : Int) (h0 : 0 ≤ lim) (h1 : lim ≤ 4294967296) (c : Nat) (w0 w : World) (l : List UInt8) (n : Nat) (hn : n < 18446744073709551616) (hl : (l.length : Int) + 8 ≤ lim) (h : TxAt lim c w0 w l) :
    Calls Tryz.prog 76 #[.pointer (some ⟨c, 0, none⟩), .int .u64 (n : Int)] w fun e w' => e = .returned (.tuple #[]) ∧ TxAt lim c w0 w' (l ++ be 8 n) := by
  obtain ⟨⟨v, hv⟩, hb⟩ := h
  refine (mbits_w c v lim l 0 n w hv h0 (by omega) (by omega) hn).mono ?_
  rintro e w' ⟨rfl, v', h', hk, _⟩
  rw [(bLx lim l n hl).1, (bLx lim l n hl).2] at h'
  exact ⟨rfl, ⟨v', h'⟩, hb.trans (hk.below (Nat.le_of_lt hv.lt) (Nat.le_refl _) (fun g hg => by have := (hv.own.lt g hg).1; omega))⟩
theorem txdone (lim : Int) (c : Nat) (w0 w : World) (l : List UInt8) (h : TxAt lim c w0 w l) :
    Calls Tryz.prog 78 #[.pointer (some ⟨c, 0, none⟩)] w fun e w' => e = .returned (.tuple #[.string ⟨l.toArray⟩, .int .i64 0]) ∧ Below c w0 w' := by
  obtain ⟨⟨v, hv⟩, hb⟩ := h
  refine (mdone_ok c v lim l w hv).mono ?_
  rintro e w' ⟨rfl, rfl⟩
  exact ⟨rfl, hb⟩
/-- .. with whatever error. -/
def TeAt (lim : Int) (c : Nat) (w0 w : World) (l : List UInt8) (er : Int) : Prop := (∃ v, MwAt w c v lim l er) ∧ Below c w0 w
theorem TxAt.te {lim : Int} {c : Nat} {w0 w : World} {l : List UInt8} (h : TxAt lim c w0 w l) : TeAt lim c w0 w l 0 := h
theorem tenum (lim : Int) (h0 : 0 ≤ lim) (h1 : lim ≤ 4294967296) (c : Nat) (w0 w : World) (l : List UInt8) (er n : Int) (s : Nat) (hs : s ≤ 4) (hl : l.length ≤ 4294967296) (h : TeAt lim c w0 w l er) :
    Calls Tryz.prog 73 #[.pointer (some ⟨c, 0, none⟩), .int .i64 n, .int .i64 (s : Int)] w fun e w' => e = .returned (.tuple #[]) ∧ TeAt lim c w0 w' (wL lim l er s n) (wE lim l er s n) := by
  obtain ⟨⟨v, hv⟩, hb⟩ := h
  refine (mnum_w c v lim l er n s hs w hv h0 (by omega) (by omega)).mono ?_
  rintro e w' ⟨rfl, v', h', hk, _⟩
  exact ⟨rfl, ⟨v', h'⟩, hb.trans (hk.below (Nat.le_of_lt hv.lt) (Nat.le_refl _) (fun g hg => by have := (hv.own.lt g hg).1; omega))⟩
def teT (l : List UInt8) (er : Int) : ByteArray := if er = 0 then ⟨l.toArray⟩ else ⟨#[]⟩
theorem tedone (lim : Int) (c : Nat) (w0 w : World) (l : List UInt8) (er : Int) (h : TeAt lim c w0 w l er) :
    Calls Tryz.prog 78 #[.pointer (some ⟨c, 0, none⟩)] w fun e w' => e = .returned (.tuple #[.string (teT l er), .int .i64 er]) ∧ Below c w0 w' := by
  by_cases he : er = 0
  · subst he
    exact txdone lim c w0 w l h
  · obtain ⟨⟨v, hv⟩, hb⟩ := h
    rw [teT, if_neg he]
    refine (mdone_err c v lim l er w hv (by simpa using he)).mono ?_
    rintro e w' ⟨rfl, rfl⟩
    exact ⟨rfl, hb.drew⟩
end Go.Proofs.YtecidbdbdnnglaaGreat
