/- The document's votes that are alike: the list that its loops build, and a row of votes of one's own. -/
import Derived.Test.YtclfphffbfdimaaVPeM
namespace Go.Proofs.Ytclfphffbfdimaa
open Go.RowKit

/-- Is this vote by m, and as v? -/
def pX (m : Int) (v : Rv) (x : RtM) : Bool := decide (x.1.1 = m) && (decide (x.1.2.1 = v.2.1) && decide (x.1.2.2.1 = v.2.2.1))
/-- The votes as v, by members, with where they lie. -/
def likeX (l : List Int) (xs : List RtM) (v : Rv) : List RtM := l.flatMap fun m => xs.filter (pX m v)
theorem likeX_map (xs : List RtM) (v : Rv) : ∀ l : List Int, (likeX l xs v).map (·.1) = likeOf l (xs.map (·.1)) v
  | [] => rfl
  | m :: l => by
    rw [likeX, likeOf, List.flatMap_cons, List.flatMap_cons, List.map_append, List.filter_map]
    exact congrArg _ (likeX_map xs v l)
theorem likeX_succ (xs : List RtM) (v : Rv) (l : List Int) (j : Nat) (h : j < l.length) : likeX (l.take (j + 1)) xs v = likeX (l.take j) xs v ++ xs.filter (pX (l.getD j 0) v) := by
  rw [likeX, likeX, List.take_succ_eq_append_getElem h, List.flatMap_append, getD_get _ _ h]
  simp
theorem likeX_mem {l : List Int} {xs : List RtM} {v : Rv} {x : RtM} (h : x ∈ likeX l xs v) : x ∈ xs := by
  obtain ⟨m, _, hx⟩ := List.mem_flatMap.1 h
  exact (List.mem_filter.1 hx).1
theorem likeX_len (xs : List RtM) (v : Rv) : ∀ l : List Int, (likeX l xs v).length ≤ l.length * xs.length
  | [] => by simp [likeX]
  | m :: l => by
    have h1 := likeX_len xs v l
    have h2 := List.length_filter_le (pX m v) xs
    rw [likeX, List.flatMap_cons, List.length_append, List.length_cons, Nat.succ_mul]
    rw [likeX] at h1
    omega
theorem filter_succ {α : Type} (p : α → Bool) (xs : List α) (q : Nat) (x : α) (h : xs[q]? = some x) : (xs.take (q + 1)).filter p = (xs.take q).filter p ++ (if p x then [x] else []) := by
  obtain ⟨hl, he⟩ := List.getElem?_eq_some_iff.1 h
  rw [List.take_succ_eq_append_getElem hl, List.filter_append, he]
  by_cases e : p x = true <;> simp [e]
/-- The slice v holds the votes xs, in a row of its own; nothing below B has turned since w0. -/
structure OwnedV (B : Nat) (w0 w : World) (v : Value) (xs : List RtM) : Prop where
  own : w.ownsRow B 85 4 v xs.length (rtC xs)
  bel : Below B w0 w
  le : B ≤ w.heap.size
theorem OwnedV.nil {B : Nat} {w0 w : World} (h : Below B w0 w) (hB : B ≤ w.heap.size) : OwnedV B w0 w (.slice none 0 0) [] := ⟨World.ownsRow_nil _ _ _ _, h, hB⟩
theorem OwnedV.keep {B : Nat} {w0 w w' : World} {v : Value} {xs : List RtM} (h : OwnedV B w0 w v xs) (hb : Below w.heap.size w w') : OwnedV B w0 w' v xs :=
  ⟨ownsRow_keep h.own hb, h.bel.trans (hb.mono h.le), Nat.le_trans h.le hb.size⟩
theorem OwnedV.grow {B : Nat} {w0 w w2 : World} {v v2 : Value} {xs : List RtM} {x : RtM} (h : OwnedV B w0 w v xs) (h2 : w2.ownsRow B 85 4 v2 (xs.length + 1) (rtC xs ++ rvC x)) (hg : w.grownBy w2 v.ownBlock) : OwnedV B w0 w2 v2 (xs ++ [x]) :=
  ⟨by rw [List.length_append, rtC_app, show rtC [x] = rvC x by simp [rtC]]; exact h2, h.bel.grown hg h.le (fun k hk => (h.own.lt k hk).1), Nat.le_trans h.le hg.size⟩
theorem OwnedV.slice {B : Nat} {w0 w : World} {v : Value} {xs : List RtM} (h : OwnedV B w0 w v xs) : ∃ a c, v = .slice a xs.length c := by
  rcases h.own.2 with ⟨hv, h0⟩ | ⟨g, cap, cur, hv, _⟩
  · exact ⟨none, 0, by rw [hv, h0]⟩
  · exact ⟨_, _, hv⟩
end Go.Proofs.Ytclfphffbfdimaa
