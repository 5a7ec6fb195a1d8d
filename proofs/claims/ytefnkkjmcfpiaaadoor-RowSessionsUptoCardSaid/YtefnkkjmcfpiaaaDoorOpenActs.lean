/- An argument that is a slice of acts (layers 10 to 12): two whole numbers and bytes each. -/
import Derived.Test.YtefnkkjmcfpiaaaDoorOpenBytes
namespace Go.Proofs.YtefnkkjmcfpiaaaDoor
open Go.ChangeShapes Go.WideShapes Go.ChangeAt Go.RowKit
set_option linter.unusedVariables false

theorem spot_none_b {W : World} {a : Addr} {v : Value} (h : W.cell? a = some v) : a = ⟨a.block, a.off, none⟩ ∧ a.block < W.heap.size := by
  obtain ⟨b, o, sp⟩ := a
  unfold World.cell? at h
  split at h
  · rename_i hb
    cases sp with
    | none => exact ⟨rfl, (Array.getElem?_eq_some_iff.1 hb).1⟩
    | some z => simp at h
  · cases h
set_option maxRecDepth 100000 in
/-- a cell that is a slice of bytes, as bytes -/
theorem bytes_of_trod {H : Type} {enc : TypeId × Value → H} {W : World} {fuel : Nat} {cs : List Value} {x : DataW H × List MemPlace}
    (h : DataW.trod enc Tryd.prog W 0 (fun _ => true) true fuel 54 cs = some x) :
    ∃ (A : Option Addr) (c : Nat) (l : List UInt8), cs = [.slice A l.length c] ∧ RdW W (.slice A l.length c) l := by
  rcases Go.Deep.open_slice1 Tryd.underlying54 Tryd.cellsByte h with ⟨rfl, rfl⟩ | ⟨a, len, cap, m, n, V, D, Pl, rfl, _, hl, hm, hmm, rfl, hi⟩
  · exact ⟨none, 0, [], rfl, (RdAt.nil _).weak⟩
  · simp only [if_true] at hmm
    subst hmm
    have hm2 : m ≤ 9223372036854775807 := by unfold maxLen at hm; omega
    by_cases h0 : m = 0
    · subst h0
      obtain rfl : len = 0 := by omega
      exact ⟨some a, 0, [], rfl, some a, 0, rfl, Nat.le_refl _, Nat.zero_le _, .inl ⟨rfl, rfl⟩⟩
    · obtain ⟨he, hg⟩ := spot_none_b (hi 0 (by omega)).1
      have he : a = ⟨a.block, a.off, none⟩ := by
        obtain ⟨b, o, sp⟩ := a
        simp only [Addr.add] at he
        injection he with e1 e2 e3
        simp only at e3 ⊢
        rw [e3]
      have hg : a.block < W.heap.size := by simpa [Addr.add] using hg
      have hall : ∀ i, ∃ x : UInt8, i < m → W.cell? (a.add i) = some (.int .u8 (x.toNat : Int)) := by
        intro i
        by_cases him : i < m
        · obtain ⟨h1, h2⟩ := hi i him
          obtain ⟨n', hn', _, hw⟩ := DataW.trod_int Tryd.underlying5 h2
          obtain ⟨c, rfl⟩ := byte_ex hw
          rw [List.singleton_inj] at hn'
          exact ⟨c, fun _ => by rw [h1, hn']⟩
        · exact ⟨0, fun h => absurd h him⟩
      obtain ⟨f, hf⟩ := Classical.axiomOfChoice hall
      refine ⟨some a, m, (List.range len).map f, by simp, some a, m, rfl, by simpa using hl, hm2, .inr ⟨a.block, a.off, by rw [← he], hg, fun j u hu => ?_⟩⟩
      have hj : j < len := by
        have := (List.getElem?_eq_some_iff.1 hu).1
        simpa [cells] using this
      rw [← he, hf j (by omega)]
      simp [cells, hj] at hu
      rw [← hu]
end Go.Proofs.YtefnkkjmcfpiaaaDoor
