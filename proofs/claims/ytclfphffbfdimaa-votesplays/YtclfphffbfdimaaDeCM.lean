/- The room of lists of any depth in memory. No walk here. -/
import Derived.Test.YtclfphffbfdimaaDeAM
namespace Go.Proofs.Ytclfphffbfdimaa
open Go.RowKit

/-- Each list has room for what it holds. -/
inductive Caps (w : World) : Value → Dat → Prop where
  | i (x : Int) : Caps w (.int .i64 x) (.i x)
  | b (x : Bool) : Caps w (.bool x) (.b x)
  | s (x : ByteArray) : Caps w (.string x) (.s x)
  | q (x : Nat) : Caps w (.int .u64 (x : Int)) (.q x)
  | f (x : Nat) : Caps w (.float .f64 x) (.f x)
  | l (ad : Option Addr) (n cap sz : Nat) (es : List (List Dat)) (hn : n ≤ cap)
      (h : ∀ (g off j q : Nat) (e : List Dat) (d : Dat) (u : Value), ad = some ⟨g, off, none⟩ → es[j]? = some e → e[q]? = some d → w.cell? ⟨g, off + j * sz + q, none⟩ = some u → Caps w u d) : Caps w (.slice ad n cap) (.l sz es)
theorem Caps.room {w : World} {v : Value} {sz : Nat} {es : List (List Dat)} (h : Caps w v (.l sz es)) : ∀ ad n c, v = .slice ad n c → n ≤ c := fun ad n c hv => by
  cases h with
  | l ad' n' cap' sz es hn h => cases hv; exact hn
theorem Caps.at {w : World} {g off n cap sz : Nat} {es : List (List Dat)} (h : Caps w (.slice (some ⟨g, off, none⟩) n cap) (.l sz es)) {j q : Nat} {e : List Dat} {d : Dat} {u : Value} (hj : es[j]? = some e) (hq : e[q]? = some d) (hu : w.cell? ⟨g, off + j * sz + q, none⟩ = some u) : Caps w u d := by
  cases h with
  | l ad n cap sz es hn h => exact h g off j q e d u rfl hj hq hu
end Go.Proofs.Ytclfphffbfdimaa
