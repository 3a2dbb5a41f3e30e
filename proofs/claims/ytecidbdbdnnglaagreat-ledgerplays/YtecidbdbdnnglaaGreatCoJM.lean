/- Configurations there and back by bytes. No walk here. -/
import Derived.Test.YtecidbdbdnnglaaGreatCoHM
import Derived.Test.YtecidbdbdnnglaaGreatRdAM
namespace Go.Proofs.YtecidbdbdnnglaaGreat
open Go.RowKit

theorem memBytes_cons (x : Int) (l : List Int) : memBytes (x :: l) = be 1 x.toNat ++ memBytes l := rfl
theorem memBytes_app (a b : List Int) : memBytes (a ++ b) = memBytes a ++ memBytes b := by rw [memBytes, List.flatMap_append]; rfl
theorem rdS_good (s : ByteArray) (l : List Int) (rest : List UInt8) (h : s.data.toList = memBytes l ++ rest) (hl : ∀ x, x ∈ l → 0 ≤ x ∧ x < 256) :
    ∀ k, k ≤ l.length → (rdS s false k).1.data.toList = memBytes (l.drop k) ++ rest ∧ (rdS s false k).2 = false ∧ rdL s false k = l.take k
  | 0, _ => ⟨h, rfl, rfl⟩
  | k + 1, hk => by
    obtain ⟨h1, h2, h3⟩ := rdS_good s l rest h hl k (by omega)
    have hd : l.drop k = l[k] :: l.drop (k + 1) := (List.drop_eq_getElem_cons (by omega))
    have hr := hl _ (List.getElem_mem (show k < l.length by omega))
    rw [hd, memBytes_cons, List.append_assoc] at h1
    obtain ⟨g1, g2, g3⟩ := rd_good (rdS s false k).1 1 (l[k]).toNat _ h1 (by omega)
    refine ⟨?_, ?_, ?_⟩
    · rw [rdS, h2]; exact g2
    · rw [rdS, h2]; exact g3
    · rw [rdL, h2, h3, g1, List.take_add_one, List.getElem?_eq_getElem (by omega), Int.toNat_of_nonneg hr.1]
      rfl
theorem rdS_back (s : ByteArray) (sh : Bool) : ∀ k, (rdS s sh k).2 = false → sh = false ∧ s.data.toList = memBytes (rdL s sh k) ++ (rdS s sh k).1.data.toList
  | 0, h => ⟨h, rfl⟩
  | k + 1, h => by
    obtain ⟨h1, h2⟩ := rd_back _ _ 1 (show rB (rdS s sh k).1 (rdS s sh k).2 1 = false from h)
    obtain ⟨h3, h4⟩ := rdS_back s sh k h1
    refine ⟨h3, ?_⟩
    rw [h4, h2, rdL, memBytes_app, List.append_assoc]
    rw [memBytes_cons, List.append_assoc, Int.toNat_natCast]
    rfl
theorem rightC_ep {ep : Int} {l : List Int} (h : rightC ep l = true) : (0 ≤ ep ∧ ep ≤ 60) ∧ memB l = true := by
  rw [rightC, Bool.and_eq_true_iff] at h
  exact ⟨of_decide_eq_true h.1, h.2⟩
/-- What is told is read. -/
theorem read_text (ep : Int) (l : List Int) (h : rightC ep l = true) : readB (textC ep l) = true ∧ readZ (textC ep l) = ep ∧ readM (textC ep l) = l := by
  obtain ⟨he, hm⟩ := rightC_ep h
  obtain ⟨t, et⟩ : ∃ t, t = textC ep l := ⟨_, rfl⟩
  have hlen := mem_len hm
  have hx : ∀ x, x ∈ l → 0 ≤ x ∧ x < 256 := fun x hx => by
    obtain ⟨i, hi, rfl⟩ := List.getElem_of_mem hx
    have := mem_range hm i hi
    rw [List.getD_eq_getElem?_getD, List.getElem?_eq_getElem hi] at this
    have h2 : 0 ≤ l[i] ∧ l[i] < 16 := this
    omega
  have ht : t.data.toList = be 1 67 ++ (be 2 ep.toNat ++ (be 1 l.length ++ (memBytes l ++ []))) := by
    rw [et, textC, if_pos h, mk_data, confB, List.append_nil, List.append_assoc, List.append_assoc]
  obtain ⟨a1, a2, a3⟩ := rd_good t 1 67 _ ht (by decide)
  have e1 : cS1 t = (rS t false 1, false) := by rw [cS1, a3]
  obtain ⟨b1, b2, b3⟩ := rd_good (cS1 t).1 2 ep.toNat _ (by rw [e1]; exact a2) (by omega)
  have e2 : cS2 t = (rS (cS1 t).1 false 2, false) := by rw [cS2, show (cS1 t).2 = false by rw [e1], b3]
  obtain ⟨c1, c2, c3⟩ := rd_good (cS2 t).1 1 l.length _ (by rw [e2]; exact b2) (by omega)
  have e3 : cS3 t = (rS (cS2 t).1 false 1, false) := by rw [cS3, show (cS2 t).2 = false by rw [e2], c3]
  have hN : cN t = l.length := by rw [cN, show (cS2 t).2 = false by rw [e2], c1]
  have hE : cE t = ep.toNat := by rw [cE, show (cS1 t).2 = false by rw [e1], b1]
  obtain ⟨d1, d2, d3⟩ := rdS_good (cS3 t).1 l [] (by rw [e3]; exact c2) hx l.length (Nat.le_refl _)
  have hM : cM t = l := by rw [cM, hN, show (cS3 t).2 = false by rw [e3], d3, List.take_length]
  have hF : endOf (cF t).1 (cF t).2 = 0 := by
    rw [cF, hN, show (cS3 t).2 = false by rw [e3], d2]
    refine end_of ?_
    rw [d1, List.drop_length]
    rfl
  have hZ : ((cE t : Nat) : Int) = ep := by rw [hE]; omega
  have hB : readB t = true := by
    rw [readB, hZ, hM, h, decide_eq_true hF, show cH t = 67 from a1]
    rfl
  rw [← et]
  exact ⟨hB, by rw [readZ, if_pos hB, hZ], by rw [readM, if_pos hB, hM]⟩
/-- What is read is told as just these bytes. -/
theorem text_read (t : ByteArray) (h : readB t = true) : rightC (readZ t) (readM t) = true ∧ textC (readZ t) (readM t) = t := by
  have hb := h
  rw [readB, Bool.and_eq_true_iff, Bool.and_eq_true_iff] at h
  obtain ⟨h1, h2, h3⟩ := h
  have h1 := of_decide_eq_true h1
  obtain ⟨f1, f2⟩ := end_ok (of_decide_eq_true h2)
  obtain ⟨g1, g2⟩ := rdS_back (cS3 t).1 (cS3 t).2 (cN t) f1
  obtain ⟨k1, k2⟩ := rd_back (cS2 t).1 (cS2 t).2 1 g1
  obtain ⟨l1, l2⟩ := rd_back (cS1 t).1 (cS1 t).2 2 k1
  obtain ⟨_, m2⟩ := rd_back t false 1 l1
  have hN : (cM t).length = cN t := rdL_len _ _ _
  rw [readZ, if_pos hb, readM, if_pos hb]
  refine ⟨h3, ?_⟩
  rw [textC, if_pos h3]
  apply ByteArray.ext
  apply Array.ext'
  rw [mk_data, confB, hN, Int.toNat_natCast]
  have m3 : t.data.toList = be 1 (cH t) ++ (cS1 t).1.data.toList := m2
  have l3 : (cS1 t).1.data.toList = be 2 (cE t) ++ (cS2 t).1.data.toList := l2
  have k3 : (cS2 t).1.data.toList = be 1 (cN t) ++ (cS3 t).1.data.toList := k2
  have g3 : (cS3 t).1.data.toList = memBytes (cM t) ++ (cF t).1.data.toList := g2
  rw [m3, l3, k3, g3, f2, h1, List.append_nil, List.append_assoc, List.append_assoc]
theorem text_inj (ep ep' : Int) (l l' : List Int) (h : rightC ep l = true) (h' : rightC ep' l' = true) (he : textC ep l = textC ep' l') : ep = ep' ∧ l = l' := by
  have h1 := read_text ep l h
  have h2 := read_text ep' l' h'
  rw [he] at h1
  exact ⟨h1.2.1.symm.trans h2.2.1, h1.2.2.symm.trans h2.2.2⟩
end Go.Proofs.YtecidbdbdnnglaaGreat
