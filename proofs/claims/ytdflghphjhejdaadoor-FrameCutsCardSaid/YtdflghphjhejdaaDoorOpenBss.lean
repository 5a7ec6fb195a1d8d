/- An argument that is a slice of slices of bytes. -/
import Derived.Test.YtdflghphjhejdaaDoorOpenActs
import Derived.Test.YtdflghphjhejdaaDoorFrameRefS
namespace Go.Proofs.YtdflghphjhejdaaDoor
open Go.ChangeShapes Go.WideShapes Go.ChangeAt Go.RowKit
set_option linter.unusedVariables false

theorem Tryd.cellsBs1 : Tryd.prog.cellsOf 23 = 1 := by kernel_rfl
set_option maxRecDepth 100000 in
/-- what is read of a slice of slices of bytes -/
theorem open_bss {H : Type} {enc : TypeId × Value → H} {W : World} {base : Nat} {v : Value} {d : DataW H} {ps : List MemPlace} (hval : Value.okWide Tryd.prog W .any base 22 v)
    (hd : DataW.Trod enc Tryd.prog W 0 (fun _ => true) true 22 v d ps) (hlt : ∀ x ∈ ps, x.block < W.heap.size) (hwt : ∀ n ∈ d.weights Tryd.prog 22, n ≤ reachBytes) :
    ∃ (A : Option Addr) (c : Nat) (l : List (List UInt8)), v = .slice A l.length c ∧ RdB W (.slice A l.length c) l := by
  obtain ⟨a0, len, cap, rfl⟩ := okWide_slice Tryd.underlying22 hval
  obtain ⟨fuel, hf⟩ := hd
  rcases Go.Deep.open_slice1 Tryd.underlying22 Tryd.cellsBs1 hf with ⟨hcs, hx⟩ | ⟨a, len', cap', m, n, V, D, Pl, hcs, _, hl, hm, hmm, hx, hi⟩
  · simp [Value.cells] at hcs
    obtain ⟨rfl, rfl, rfl⟩ := hcs
    exact ⟨none, 0, [], rfl, none, 0, rfl, Nat.le_refl _, fun k l hk => by simp only [List.getElem?_nil] at hk; cases hk⟩
  · simp [Value.cells] at hcs
    obtain ⟨rfl, rfl, rfl⟩ := hcs
    simp only [if_true] at hmm
    subst hmm
    have hsp : 0 < m → a = ⟨a.block, a.off, none⟩ ∧ a.block < W.heap.size := by
      intro h0
      obtain ⟨he, hg⟩ := spot_none_b (hi 0 h0).1
      obtain ⟨b, o, sp⟩ := a
      simp only [Addr.add] at he hg
      injection he with e1 e2 e3
      simp only at e3 ⊢
      exact ⟨by rw [e3], hg⟩
    have hall : ∀ i, ∃ (x : List UInt8), i < m → ∃ u, W.cell? ⟨a.block, a.off + i, none⟩ = some u ∧ RdW W u x := by
      intro i
      by_cases him : i < m
      · obtain ⟨h1, h2⟩ := hi i him
        obtain ⟨A, c, l, hc, hr⟩ := bytes_of_trod h2
        rw [List.singleton_inj] at hc
        obtain ⟨e1, e2⟩ := hsp (by omega)
        rw [e1, Addr.add_lit, hc] at h1
        exact ⟨l, fun _ => ⟨_, h1, hr⟩⟩
      · exact ⟨[], fun h => absurd h him⟩
    obtain ⟨f, hf⟩ := Classical.axiomOfChoice hall
    refine ⟨some a, m, (List.range len).map f, by simp, some a, m, by simp, by simpa using hl, fun k x hk => ?_⟩
    obtain ⟨hk1, rfl⟩ := List.getElem?_eq_some_iff.1 hk
    have hk' : k < len := by simpa using hk1
    obtain ⟨u, h1, h2⟩ := hf k (by omega)
    obtain ⟨e1, e2⟩ := hsp (by omega)
    simp only [List.getElem_map, List.getElem_range]
    exact ⟨a.block, a.off, u, by rw [← e1], e2, h1, h2⟩
end Go.Proofs.YtdflghphjhejdaaDoor
