/- An argument that is a slice of pairs, as pairs. -/
import Derived.Test.YtdogcnlcefklkaaGet
import Derived.ProofKit
import Derived.ChangeMaps5
import Derived.Deep.Slices
import Derived.SizedLaws
namespace Go.Proofs.Ytdogcnlcefklkaa
open Go.ChangeShapes Go.WideShapes Go.ChangeAt Go.RowKit

theorem Try.laidOutP : laidOutB Try.prog = true := by kernel_rfl
theorem Try.cellsPair : Try.prog.cellsOf 32 = 2 := by kernel_rfl
theorem Try.bytesPair : Try.prog.bytesOf 32 = 32 := by kernel_rfl
theorem Try.cellsStr : Try.prog.cellsOf 9 = 1 := by kernel_rfl

/-- two cells that read as a pair -/
theorem open_pair {H : Type} {enc : TypeId × Value → H} {W : World} {base : Nat} {sp : Nat → Bool} {held : Bool} {n : Nat} {cs : List Value} {x : DataW H × List MemPlace}
    (h : DataW.trod enc Try.prog W base sp held n 32 cs = some x) : ∃ a b : ByteArray, cs = [.string a, .string b] ∧ x.1 = .agg [.lit (.string a.data.toList), .lit (.string b.data.toList)] := by
  obtain ⟨xs, m, _, hx, hlen, hxl, hf⟩ := DataW.trod_struct Try.underlying32 h
  rw [Try.cellsPair] at hlen
  match cs, hlen with
  | [c0, c1], _ =>
    have h0 : DataW.trod enc Try.prog W base sp held m 9 [c0] = xs[0]? := by
      have := hf 0 { name := "Key", type := 9, offset := 0, embedded := false, tag := "", pkgPath := "", byteOffset := 0 } rfl
      rwa [Try.cellsStr] at this
    have h1 : DataW.trod enc Try.prog W base sp held m 9 [c1] = xs[1]? := by
      have := hf 1 { name := "Value", type := 9, offset := 1, embedded := false, tag := "", pkgPath := "", byteOffset := 16 } rfl
      rwa [Try.cellsStr] at this
    match xs, hxl with
    | [y0, y1], _ =>
      simp only [List.getElem?_cons_zero, List.getElem?_cons_succ] at h0 h1
      obtain ⟨a, ha, ya, za⟩ := DataW.trod_string Try.underlying9 h0
      obtain ⟨b, hb, yb, zb⟩ := DataW.trod_string Try.underlying9 h1
      simp at ha hb
      exact ⟨a, b, by rw [ha, hb], by rw [hx, ya, yb]; rfl⟩

theorem weightsAll_in {H : Type} {P : Program} {e : TypeId} : ∀ {l : List (DataW H)} {d : DataW H}, d ∈ l → ∀ n ∈ d.weights P e, n ∈ DataW.weightsAll P e l
  | d0 :: l, d, hd, n, hn => by
    simp only [DataW.weightsAll, List.mem_append]
    rcases List.mem_cons.1 hd with rfl | h
    · exact Or.inl hn
    · exact Or.inr (weightsAll_in h n hn)

/-- what is read of a slice of pairs: the pairs; their texts are no longer than a text may be -/
theorem open_pairs {H : Type} {enc : TypeId × Value → H} {W : World} {base : Nat} {v : Value} {d : DataW H} {ps : List MemPlace} (hval : Value.okWide Try.prog W .any base 30 v)
    (hd : DataW.Trod enc Try.prog W 0 (fun _ => true) true 30 v d ps) (hlt : ∀ x ∈ ps, x.block < W.heap.size) (hwt : ∀ n ∈ d.weights Try.prog 30, n ≤ reachBytes) :
    ∃ (A : Option Addr) (c : Nat) (l : PL), v = .slice A l.length c ∧ Prs W W.heap.size A l ∧ l.length ≤ reachBytes ∧ ∀ p ∈ l, p.1.length ≤ reachBytes ∧ p.2.length ≤ reachBytes := by
  obtain ⟨a0, len, cap, rfl⟩ := okWide_slice Try.underlying30 hval
  obtain ⟨fuel, hf⟩ := hd
  rcases Go.Deep.open_slice Try.underlying30 hf with ⟨hcs, hx⟩ | ⟨a, len', cap', m, n, D, Pl, hcs, _, hl, hm, hmm, hx, hi⟩
  · simp [Value.cells] at hcs
    obtain ⟨rfl, rfl, rfl⟩ := hcs
    exact ⟨none, 0, [], rfl, Prs.nil _ _ _, Nat.zero_le _, by simp⟩
  · simp [Value.cells] at hcs
    obtain ⟨rfl, rfl, rfl⟩ := hcs
    simp only [if_true] at hmm
    subst hmm
    rw [Try.cellsPair] at hi hx
    have hall : ∀ i, ∃ x : ByteArray × ByteArray, i < m → W.cell? (a.add (i * 2)) = some (.string x.1) ∧ W.cell? (a.add (i * 2 + 1)) = some (.string x.2) ∧ D i = .agg [.lit (.string x.1.data.toList), .lit (.string x.2.data.toList)] := by
      intro i
      by_cases him : i < m
      · obtain ⟨cs', hc, ht'⟩ := hi i him
        obtain ⟨u, u', rfl, hD⟩ := open_pair ht'
        obtain ⟨_, _, hat⟩ := World.cells?_some hc
        refine ⟨(u, u'), fun _ => ⟨?_, ?_, hD⟩⟩
        · have := hat 0 (by decide); simpa [Addr.add] using this
        · have := hat 1 (by decide); rw [Go.Deep.add_add] at this; simpa using this
      · exact ⟨(⟨#[]⟩, ⟨#[]⟩), fun h => absurd h him⟩
    obtain ⟨f, hf⟩ := Classical.axiomOfChoice hall
    let g : Nat → List UInt8 × List UInt8 := fun i => ((f i).1.data.toList, (f i).2.data.toList)
    simp only [Prod.mk.injEq] at hx
    have hlen : len ≤ reachBytes := by
      have := hwt ((len + (m - len)) * Try.prog.bytesOf 32) (by rw [hx.1]; simp [DataW.weights, Try.underlying30])
      rw [Try.bytesPair] at this
      omega
    refine ⟨some a, m, (List.range len).map g, by simp, fun k hk => ?_, by simpa using hlen, ?_⟩
    · have hk' : k < len := by simpa using hk
      refine ⟨a, rfl, ?_, ?_, ?_⟩
      · have hb : MemPlace.cell a.block a.off ∈ ps := by
          rw [hx.2, List.mem_append]
          exact .inl (MemPlace.mem_row.2 ⟨0, by omega, by simp⟩)
        exact hlt _ hb
      · rw [(hf k (by omega)).1]; simp [g]
      · rw [add_next, (hf k (by omega)).2.1]; simp [g]
    · intro p hp
      obtain ⟨i, hi', rfl⟩ := List.mem_map.1 hp
      have hil : i < len := by simpa using hi'
      have hD := (hf i (by omega)).2.2
      have hin : D i ∈ (List.range len).map D := List.mem_map.2 ⟨i, by simpa using hil, rfl⟩
      have hmem : ∀ n ∈ (D i).weights Try.prog 32, n ≤ reachBytes := fun n hn => hwt n (by
        rw [hx.1]
        simp only [DataW.weights, Try.underlying30, List.mem_cons, List.mem_append]
        exact .inr (.inl (weightsAll_in hin n hn)))
      rw [hD] at hmem
      refine ⟨hmem _ ?_, hmem _ ?_⟩ <;> simp [DataW.weights, Try.underlying32, DataW.weightsEach, g]
end Go.Proofs.Ytdogcnlcefklkaa
