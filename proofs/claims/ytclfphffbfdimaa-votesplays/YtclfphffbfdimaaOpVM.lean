/- Arguments of the laws of votes, opened: a configuration, scripts of votes. No walk here. -/
import Derived.Test.YtclfphffbfdimaaOpAM
namespace Go.Proofs.Ytclfphffbfdimaa
open Go.ChangeShapes Go.WideShapes Go.ChangeAt Go.RowKit

/-- A vote of a script: who, the state's bytes, the next members, what is spoiled. -/
abbrev VtA := Int × ByteArray × List Int × Int
/-- Scripts in memory. -/
def VtsIn (w : World) (ad : Option Addr) (vs : List VtA) : Prop := ∀ (j : Nat) (o : VtA), vs[j]? = some o → ∃ g off aj cj, ad = some ⟨g, off, none⟩ ∧ g < w.heap.size ∧ (w.cell? ⟨g, off + j * 4, none⟩ = some (.int .i64 o.1) ∧ w.cell? ⟨g, off + j * 4 + 1, none⟩ = some (.string o.2.1) ∧ w.cell? ⟨g, off + j * 4 + 2, none⟩ = some (.slice aj o.2.2.1.length cj) ∧ w.cell? ⟨g, off + j * 4 + 3, none⟩ = some (.int .i64 o.2.2.2)) ∧ IntsIn w aj o.2.2.1
theorem VtsIn.keep {w w' : World} {ad : Option Addr} {vs : List VtA} (h : VtsIn w ad vs) (hb : Below w.heap.size w w') : VtsIn w' ad vs := fun j o ho => by
  obtain ⟨g, off, aj, cj, h1, h2, ⟨h3, h4, h5, h6⟩, h7⟩ := h j o ho
  exact ⟨g, off, aj, cj, h1, Nat.lt_of_lt_of_le h2 hb.size, ⟨(hb.cell (p := ⟨g, _, none⟩) h2).trans h3, (hb.cell (p := ⟨g, _, none⟩) h2).trans h4, (hb.cell (p := ⟨g, _, none⟩) h2).trans h5, (hb.cell (p := ⟨g, _, none⟩) h2).trans h6⟩, h7.keep hb (Nat.le_refl _)⟩
def vtOk (o : VtA) : Prop := o.2.1.size ≤ 140737488351232 ∧ o.2.2.1.length ≤ maxLen
def shInts : Sh := .l 8 1 .i
def shConf : Sh := .st (.c .i (.c shInts .u))
def shVote : Sh := .st (.c .i (.c .s (.c shInts (.c .i .u))))
def shVotes : Sh := .l 56 4 shVote
theorem of_ints : shInts.Of Try.prog (.inl 22) := ⟨_, Try.underlying22, by kernel_rfl, by kernel_rfl, rfl, by decide, Try.underlying3⟩
theorem of_conf : shConf.Of Try.prog (.inl 24) := ⟨_, Try.underlying24, by kernel_rfl, ⟨_, _, rfl, rfl, by kernel_rfl, Try.underlying3, ⟨_, _, rfl, rfl, by kernel_rfl, of_ints, rfl⟩⟩⟩
theorem of_vote : shVote.Of Try.prog (.inl 38) := ⟨_, Try.underlying38, by kernel_rfl, ⟨_, _, rfl, rfl, by kernel_rfl, Try.underlying3, ⟨_, _, rfl, rfl, by kernel_rfl, Try.underlying9, ⟨_, _, rfl, rfl, by kernel_rfl, of_ints, ⟨_, _, rfl, rfl, by kernel_rfl, Try.underlying3, rfl⟩⟩⟩⟩⟩
theorem of_votes : shVotes.Of Try.prog (.inl 30) := ⟨_, Try.underlying30, by kernel_rfl, by kernel_rfl, rfl, by decide, of_vote⟩
theorem fits_map {α : Type} {f : α → List Dat} {Q : α → Prop} : ∀ (es : List (List Dat)), (∀ d, d ∈ es → ∃ x, d = f x ∧ Q x) → ∃ xs : List α, es = xs.map f ∧ ∀ x, x ∈ xs → Q x
  | [], _ => ⟨[], rfl, fun x h => by cases h⟩
  | e :: es, h => by
    obtain ⟨x, rfl, hx⟩ := h e (List.mem_cons_self ..)
    obtain ⟨xs, rfl, hxs⟩ := fits_map es (fun d hd => h d (List.mem_cons_of_mem _ hd))
    refine ⟨x :: xs, rfl, fun y hy => ?_⟩
    rcases List.mem_cons.1 hy with rfl | hy
    · exact hx
    · exact hxs y hy
def dVt (o : VtA) : List Dat := [.i o.1, .s o.2.1, dInts o.2.2.1, .i o.2.2.2]
section
variable {S : Prop} {U : Nat}
theorem fits_ints {ds : List Dat} (h : Fits S U shInts ds) : ∃ xs : List Int, ds = [dInts xs] ∧ xs.length ≤ maxLen ∧ (S → xs.length * 8 ≤ 140737488351232) := by
  obtain ⟨es, rfl, h1, h2, _, h3⟩ := h
  obtain ⟨xs, rfl, _⟩ := fits_map (f := fun x : Int => [Dat.i x]) (Q := fun _ => True) es (fun d hd => by obtain ⟨x, hx, _⟩ := h3 d hd; exact ⟨x, hx, trivial⟩)
  rw [List.length_map] at h1 h2
  exact ⟨xs, rfl, h1, h2⟩
theorem fits_conf {ds : List Dat} (h : Fits S U shConf ds) : ∃ (e : Int) (xs : List Int), ds = [.i e, dInts xs] ∧ xs.length ≤ maxLen ∧ (S → xs.length * 8 ≤ 140737488351232) := by
  obtain ⟨d1, d2, rfl, ⟨x, rfl, _⟩, d3, d4, rfl, h3, rfl⟩ := h
  obtain ⟨xs, rfl, h4, h5⟩ := fits_ints h3
  exact ⟨x, xs, rfl, h4, h5⟩
theorem fits_vote {ds : List Dat} (h : Fits S U shVote ds) : ∃ o : VtA, ds = dVt o ∧ (S → vtOk o) := by
  obtain ⟨d1, d2, rfl, ⟨x, rfl, _⟩, d3, d4, rfl, ⟨y, rfl, _, hy2, _⟩, d5, d6, rfl, h5, d7, d8, rfl, ⟨z, rfl, _⟩, rfl⟩ := h
  obtain ⟨xs, rfl, h6, _⟩ := fits_ints h5
  exact ⟨(x, y, xs, z), rfl, fun s => ⟨hy2 s, h6⟩⟩
theorem fits_votes {ds : List Dat} (h : Fits S U shVotes ds) : ∃ os : List VtA, ds = [.l 4 (os.map dVt)] ∧ os.length ≤ maxLen ∧ (S → ∀ o, o ∈ os → vtOk o) := by
  obtain ⟨es, rfl, h1, h2, _, h3⟩ := h
  obtain ⟨os, rfl, h4⟩ := fits_map (f := dVt) (Q := fun o => S → vtOk o) es (fun d hd => fits_vote (h3 d hd))
  rw [List.length_map] at h1
  exact ⟨os, rfl, h1, fun s o ho => h4 o ho s⟩
end
theorem reads_votes {G : Nat → Prop} {W : World} {v : Value} {os : List VtA} (h : Reads G W v (.l 4 (os.map dVt))) : ∃ ad cap, v = .slice ad os.length cap ∧ VtsIn W ad os := by
  obtain ⟨ad, cap, hv⟩ := h.form
  refine ⟨ad, cap, by rw [hv, List.length_map], fun j o ho => ?_⟩
  obtain ⟨g, off, cap', hv', _, hg, _, hc⟩ := h.at j (dVt o) (by rw [List.getElem?_map, ho]; rfl)
  rw [hv] at hv'
  cases hv'
  obtain ⟨u0, k0, r0⟩ := hc 0 (.i o.1) rfl
  obtain ⟨u1, k1, r1⟩ := hc 1 (.s o.2.1) rfl
  obtain ⟨u2, k2, r2⟩ := hc 2 (dInts o.2.2.1) rfl
  obtain ⟨u3, k3, r3⟩ := hc 3 (.i o.2.2.2) rfl
  obtain ⟨aj, cj, e2, hi, _⟩ := reads_ints r2
  rw [r0.int] at k0
  rw [r1.str] at k1
  rw [e2] at k2
  rw [r3.int] at k3
  exact ⟨g, off, aj, cj, rfl, hg, ⟨k0, k1, k2, k3⟩, hi⟩
section
variable {H : Type} {enc : TypeId × Value → H} {W : World} {fuel : Nat} {x : DataW H × List MemPlace}
theorem open_conf {c0 c1 : Value} (h : DataW.trod enc Try.prog W 0 (fun _ => true) true fuel 24 [c0, c1] = some x) :
    ∃ (e : Int) (ad : Option Addr) (cap : Nat) (xs : List Int), c0 = .int .i64 e ∧ c1 = .slice ad xs.length cap ∧ xs.length ≤ maxLen ∧ IntsIn W ad xs ∧ ((∀ m ∈ x.1.weights Try.prog 24, m ≤ reachBytes) → xs.length * 8 ≤ 140737488351232) := by
  obtain ⟨ds, hf, hc⟩ := (opens_all Try.prog shConf).1 _ _ _ _ of_conf h
  obtain ⟨e, xs, rfl, h1, h2⟩ := fits_conf hf
  obtain ⟨u0, e0, r0, _⟩ := hc 0 _ rfl
  obtain ⟨u1, e1, r1, _⟩ := hc 1 _ rfl
  cases e0
  cases e1
  obtain ⟨ad, cap, hv, hi, _⟩ := reads_ints r1
  exact ⟨e, ad, cap, xs, r0.int, hv, h1, hi, h2⟩
theorem open_votes {ad : Option Addr} {len cap : Nat} (h : DataW.trod enc Try.prog W 0 (fun _ => true) true fuel 30 [.slice ad len cap] = some x) :
    ∃ os : List VtA, os.length = len ∧ os.length ≤ maxLen ∧ VtsIn W ad os ∧ ((∀ m ∈ x.1.weights Try.prog 30, m ≤ reachBytes) → ∀ o, o ∈ os → vtOk o) := by
  obtain ⟨ds, hf, hc⟩ := (opens_all Try.prog shVotes).1 _ _ _ _ of_votes h
  obtain ⟨os, rfl, h1, h2⟩ := fits_votes hf
  obtain ⟨u0, e0, r0, _⟩ := hc 0 _ rfl
  cases e0
  obtain ⟨ad', cap', hv, hi⟩ := reads_votes r0
  cases hv
  exact ⟨os, rfl, h1, hi, h2⟩
end
end Go.Proofs.Ytclfphffbfdimaa
