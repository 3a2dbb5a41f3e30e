/- Signed changes are right; the changes that the laws live by. No walk here. -/
import Derived.Test.YthoofboegchodaaChQM
import Derived.Test.YthoofboegchodaaChKM
namespace Go.Proofs.Ythoofboegchodaa
open Go.RowKit

theorem chE_sgnd (ep : Int) (z : Cg) : chE ep (sgnd ep z) = chE ep z := rfl
theorem chT_sgnd (ep : Int) (z : Cg) : chT ep (sgnd ep z) = chT ep z := rfl
theorem ri_sgnd {ep : Int} {m : List Int} {z : Cg} (h1 : rightC ep m = true) (h2 : chE ep z = 0) (h3 : hasM m z.1 = true) (h4 : ceE ep m z.2.1 z.2.2.1 = 0) : riE ep m (sgnd ep z) = 0 := by
  rw [riE, if_pos h1, chE_sgnd, if_pos h2, if_pos (show hasM m (sgnd ep z).1 = true from h3), if_pos (show ceE ep m (sgnd ep z).2.1 (sgnd ep z).2.2.1 = 0 from h4), chT_sgnd]
  exact if_pos rfl
def lvM : List Int := [0, 1, 2, 3]
def lvQ : Rq := ⟨1, 1, 6, ⟨#[]⟩, 0, 7⟩
def lvP : ByteArray := prT 0 0 3 lvQ
def lvY : Ct := (0, 3, lvQ, [(0, lvP), (1, lvP), (3, lvP)])
def lv0 : Cg := (0, 1, [], sg0)
def lv1 : Cg := (1, 1, [lvY], sg0)
def lv3 : Cg := (3, 1, [], sg0)
def lvL : List Cg := [sgnd 0 lv0, sgnd 0 lv1, sgnd 0 lv3]
theorem lv_right : rightC 0 lvM = true := by decide
set_option maxRecDepth 100000 in
theorem lv_ch0 : chE 0 lv0 = 0 ∧ chE 0 lv3 = 0 ∧ chE 0 (1, 1, [], sg0) = 0 := by decide
set_option maxRecDepth 100000 in
theorem lv_ch1 : chE 0 lv1 = 0 := by decide
set_option maxRecDepth 100000 in
theorem lv_ce : ceE 0 lvM 1 [lvY] = 0 := by decide
set_option maxRecDepth 100000 in
theorem lv_ri0 : riE 0 lvM (sgnd 0 lv0) = 0 := ri_sgnd lv_right lv_ch0.1 (by decide) rfl
theorem lv_ri1 : riE 0 lvM (sgnd 0 lv1) = 0 := ri_sgnd lv_right lv_ch1 (by decide) lv_ce
theorem lv_ri3 : riE 0 lvM (sgnd 0 lv3) = 0 := ri_sgnd lv_right lv_ch0.2.1 (by decide) rfl
theorem lv_rf : rfE 0 lvM 1 lvL = 0 := by
  have h1 : vwB 1 lvL = true := by rfl
  have h2 : riA 0 lvM lvL = 0 := by
    rw [lvL, riA, if_pos lv_ri0, riA, if_pos lv_ri1, riA, if_pos lv_ri3]
    rfl
  have h3 : rsgB lvL = true := by rfl
  rw [rfE, if_pos lv_right, if_pos h1, if_pos h2, if_pos h3, if_pos (by decide)]
theorem lv_pk : pkN 0 lvL = [zeroQ, zeroQ, lvQ] := by
  have h : allC lvL = [lvY] := rfl
  rw [pkN, h]
  rfl
theorem lv_un : riE 0 lvM (1, 1, [], sg0) = 16 := by
  have h : ¬ sg0 = ((1 : Int), chT 0 (1, 1, [], sg0)) := fun e => by
    have := congrArg Prod.fst e
    exact absurd this (by decide)
  rw [riE, if_pos lv_right, if_pos lv_ch0.2.2, if_pos (by decide), if_pos (by rfl), if_neg h]
end Go.Proofs.Ythoofboegchodaa
