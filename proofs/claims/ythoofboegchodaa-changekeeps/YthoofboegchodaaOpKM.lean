/- A configuration with room, and a tale, as arguments. No walk here. -/
import Derived.Test.YthoofboegchodaaOpEM
namespace Go.Proofs.Ythoofboegchodaa
open Go.ChangeShapes Go.WideShapes Go.ChangeAt Go.RowKit

def shAskK : Sh := .st (.c .i (.c .i (.c .i (.c .s (.c .q (.c .i .u))))))
def shTale : Sh := .st (.c .i (.c .i (.c shInts (.c shAskK (.c shCerts .u)))))
theorem of_askK : shAskK.Of Try.prog (.inl 57) := ⟨_, Try.underlying57, by kernel_rfl, ⟨_, _, rfl, rfl, by kernel_rfl, Try.underlying3, ⟨_, _, rfl, rfl, by kernel_rfl, Try.underlying3, ⟨_, _, rfl, rfl, by kernel_rfl, Try.underlying3, ⟨_, _, rfl, rfl, by kernel_rfl, Try.underlying9, ⟨_, _, rfl, rfl, by kernel_rfl, Try.underlying55, ⟨_, _, rfl, rfl, by kernel_rfl, Try.underlying3, rfl⟩⟩⟩⟩⟩⟩⟩
theorem of_tale : shTale.Of Try.prog (.inl 59) := ⟨_, Try.underlying59, by kernel_rfl, ⟨_, _, rfl, rfl, by kernel_rfl, Try.underlying3, ⟨_, _, rfl, rfl, by kernel_rfl, Try.underlying3, ⟨_, _, rfl, rfl, by kernel_rfl, of_ints, ⟨_, _, rfl, rfl, by kernel_rfl, of_askK, ⟨_, _, rfl, rfl, by kernel_rfl, of_certs, rfl⟩⟩⟩⟩⟩⟩
section
variable {S : Prop} {U : Nat}
theorem fit_askK {ds : List Dat} (h : Fits S U shAskK ds) : ∃ q : Rq, ds = [.i q.c, .i q.st, .i q.k, .s q.key, .q q.b, .i q.id] ∧ rqR q := by
  obtain ⟨e1, f1, rfl, ⟨x1, rfl, h1⟩, e2, f2, rfl, ⟨x2, rfl, h2⟩, e3, f3, rfl, ⟨x3, rfl, h3⟩, e4, f4, rfl, ⟨x4, rfl, h4, _⟩, e5, f5, rfl, ⟨x5, rfl, h5⟩, e6, f6, rfl, ⟨x6, rfl, h6⟩, rfl⟩ := h
  exact ⟨⟨x1, x2, x3, x4, x5, x6⟩, rfl, ⟨h1, h2⟩, ⟨h3, h6⟩, h4, h5⟩
theorem fit_tale {ds : List Dat} (h : Fits S U shTale ds) : ∃ (v wh : Int) (bad : List Int) (q : Rq) (l : List Ct), ds = [.i v, .i wh, dInts bad, .i q.c, .i q.st, .i q.k, .s q.key, .q q.b, .i q.id, dCts l] ∧ intsR bad ∧ rqR q ∧ l.length ≤ maxLen ∧ ∀ z, z ∈ l → ctR z := by
  obtain ⟨d1, r1, rfl, ⟨x, rfl, _⟩, d2, r2, rfl, ⟨y, rfl, _⟩, d3, r3, rfl, h3, d4, r4, rfl, h4, d5, r5, rfl, h5, rfl⟩ := h
  obtain ⟨bad, rfl, hb⟩ := fit_ints h3
  obtain ⟨q, rfl, hq⟩ := fit_askK h4
  obtain ⟨l, rfl, hl⟩ := fit_certs h5
  exact ⟨x, y, bad, q, l, by simp, hb, hq, hl.1, hl.2⟩
end
section
variable {H : Type} {enc : TypeId × Value → H} {W : World} {fuel : Nat} {x : DataW H × List MemPlace}
theorem open_confK {c0 c1 : Value} (h : DataW.trod enc Try.prog W 0 (fun _ => true) true fuel 34 [c0, c1] = some x) :
    ∃ (e : Int) (a : Option Addr) (k : Nat) (xs : List Int), c0 = .int .i64 e ∧ c1 = .slice a xs.length k ∧ xs.length ≤ maxLen ∧ xs.length ≤ k ∧ IntsIn W a xs := by
  obtain ⟨ds, hf, hc⟩ := (opens_all Try.prog shConf).1 _ _ _ _ of_conf h
  obtain ⟨e, xs, rfl, _, h1⟩ := fit_conf hf
  obtain ⟨u0, e0, r0, _⟩ := hc 0 _ rfl
  obtain ⟨u1, e1, r1, k1⟩ := hc 1 _ rfl
  cases e0
  cases e1
  obtain ⟨ad, cap, hv, hi, _⟩ := reads_ints r1
  exact ⟨e, ad, cap, xs, r0.int, hv, h1.1, k1.room _ _ _ hv, hi⟩
theorem open_tale {c0 c1 c2 c3 c4 c5 c6 c7 c8 c9 : Value} (h : DataW.trod enc Try.prog W 0 (fun _ => true) true fuel 59 [c0, c1, c2, c3, c4, c5, c6, c7, c8, c9] = some x) :
    ∃ (v wh : Int) (ab : Option Addr) (kb : Nat) (bad : List Int) (q : Rq) (al : Option Addr) (kl : Nat) (l : List Ct), c0 = .int .i64 v ∧ c1 = .int .i64 wh ∧ c2 = .slice ab bad.length kb ∧ c3 = .int .i64 q.c ∧ c4 = .int .i64 q.st ∧ c5 = .int .i64 q.k ∧ c6 = .string q.key ∧ c7 = .int .u64 (q.b : Int) ∧ c8 = .int .i64 q.id ∧ c9 = .slice al l.length kl ∧ bad.length ≤ maxLen ∧ rqR q ∧ l.length ≤ maxLen ∧ (∀ z, z ∈ l → ctR z) ∧ IntsIn W ab bad ∧ Reads (fun k => k < W.heap.size) W (.slice al l.length kl) (dCts l) := by
  obtain ⟨ds, hf, hc⟩ := (opens_all Try.prog shTale).1 _ _ _ _ of_tale h
  obtain ⟨v, wh, bad, q, l, rfl, h1, h2, h3, h4⟩ := fit_tale hf
  obtain ⟨_, q0, r0, _⟩ := hc 0 _ rfl
  obtain ⟨_, q1, r1, _⟩ := hc 1 _ rfl
  obtain ⟨_, q2, r2, _⟩ := hc 2 _ rfl
  obtain ⟨_, q3, r3, _⟩ := hc 3 _ rfl
  obtain ⟨_, q4, r4, _⟩ := hc 4 _ rfl
  obtain ⟨_, q5, r5, _⟩ := hc 5 _ rfl
  obtain ⟨_, q6, r6, _⟩ := hc 6 _ rfl
  obtain ⟨_, q7, r7, _⟩ := hc 7 _ rfl
  obtain ⟨_, q8, r8, _⟩ := hc 8 _ rfl
  obtain ⟨_, q9, r9, _⟩ := hc 9 _ rfl
  cases q0; cases q1; cases q2; cases q3; cases q4; cases q5; cases q6; cases q7; cases q8; cases q9
  obtain ⟨ab, kb, hvb, hib, _⟩ := reads_ints r2
  obtain ⟨al, kl, hvl⟩ := Reads.form r9
  rw [List.length_map] at hvl
  exact ⟨v, wh, ab, kb, bad, q, al, kl, l, r0.int, r1.int, hvb, r3.int, r4.int, r5.int, r6.str, r7.quad, r8.int, hvl, h1.1, h2, h3, h4, hib, by rw [← hvl]; exact r9.mono (fun k hk _ => hk)⟩
end
end Go.Proofs.Ythoofboegchodaa
