/- An argument that is a slice of bytes, as bytes. -/
import Derived.Test.YtefnkkjmcfpiaaaDoorRdAt
import Derived.ProofKit
import Derived.ChangeMaps5
import Derived.Deep.Slices
import Derived.SizedLaws
namespace Go.Proofs.YtefnkkjmcfpiaaaDoor
open Go.ChangeShapes Go.WideShapes Go.ChangeAt Go.RowKit
set_option linter.unusedVariables false

theorem Tryd.laidOutBy : laidOutB Tryd.prog = true := by kernel_rfl
theorem Tryd.cellsByte : Tryd.prog.cellsOf 5 = 1 := by kernel_rfl
set_option maxRecDepth 100000 in
/-- what is read of a slice of bytes: the bytes -/
theorem open_bytes {H : Type} {enc : TypeId × Value → H} {W : World} {base : Nat} {v : Value} {d : DataW H} {ps : List MemPlace} (hval : Value.okWide Tryd.prog W .any base 54 v)
    (hd : DataW.Trod enc Tryd.prog W 0 (fun _ => true) true 54 v d ps) (hlt : ∀ x ∈ ps, x.block < W.heap.size) (hwt : ∀ n ∈ d.weights Tryd.prog 54, n ≤ reachBytes) :
    ∃ (A : Option Addr) (c : Nat) (l : List UInt8), v = .slice A l.length c ∧ RdAt W (.slice A l.length c) l := by
  have hv2 := hval
  obtain ⟨a0, len, cap, rfl⟩ := okWide_slice Tryd.underlying54 hval
  obtain ⟨fuel, hf⟩ := hd
  rcases Go.Deep.open_slice1 Tryd.underlying54 Tryd.cellsByte hf with ⟨hcs, hx⟩ | ⟨a, len', cap', m, n, V, D, Pl, hcs, _, hl, hm, hmm, hx, hi⟩
  · simp [Value.cells] at hcs
    obtain ⟨rfl, rfl, rfl⟩ := hcs
    exact ⟨none, 0, [], rfl, RdAt.nil _⟩
  · simp [Value.cells] at hcs
    obtain ⟨rfl, rfl, rfl⟩ := hcs
    simp only [Value.okWide, Cell.okWide, Cell.ok, Tryd.underlying54] at hv2
    obtain ⟨_, hcap, -, hspot, row, cells0, hshape, -⟩ := hv2
    obtain ⟨g, o, spot⟩ := a
    obtain rfl : spot = none := hspot
    have hg : g < W.heap.size := by
      unfold World.shape? at hshape
      split at hshape
      · rename_i hgb
        exact (Array.getElem?_eq_some_iff.1 hgb).1
      · cases hshape
    have hall : ∀ i, ∃ x : UInt8, i < m → W.cell? ((⟨g, o, none⟩ : Addr).add i) = some (.int .u8 (x.toNat : Int)) := by
      intro i
      by_cases him : i < m
      · obtain ⟨h1, h2⟩ := hi i him
        obtain ⟨n', hn', _, hw⟩ := DataW.trod_int Tryd.underlying5 h2
        obtain ⟨c, rfl⟩ := byte_ex hw
        rw [List.singleton_inj] at hn'
        exact ⟨c, fun _ => by rw [h1, hn']⟩
      · exact ⟨0, fun h => absurd h him⟩
    obtain ⟨f, hf⟩ := Classical.axiomOfChoice hall
    simp only [if_true] at hmm
    refine ⟨some ⟨g, o, none⟩, cap, (List.range len).map f, by simp, some ⟨g, o, none⟩, cap, rfl, by simpa using hl, ?_, .inr ⟨g, o, rfl, hg, fun j u hu => ?_⟩⟩
    · have : IntKind.i64.max = 9223372036854775807 := by decide
      omega
    · have hj : j < len := by
        have := (List.getElem?_eq_some_iff.1 hu).1
        simpa [cells] using this
      rw [hf j (by omega)]
      simp [cells, hj] at hu
      rw [← hu]
end Go.Proofs.YtefnkkjmcfpiaaaDoor
