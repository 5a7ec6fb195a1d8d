/- The library's decimal digits are those of the document. -/
import Derived.Test.YtefnkkjmcfpiaaaDoorJsonPure
import Derived.Lib.ItoaMem
namespace Go.Proofs.YtefnkkjmcfpiaaaDoor

theorem itoa_dec (n : Int) : Lib.itoa n = decI n := by
  have h : ∀ u : Nat, Lib.decDigits u = decL u := by
    intro u
    induction u using Nat.strongRecOn with
    | _ u ih =>
      rw [Lib.decDigits, decL]
      by_cases h : u < 10
      · rw [dif_pos h, if_pos h]; unfold digit; rw [Nat.mod_eq_of_lt h]
      · rw [dif_neg h, if_neg h, ih (u / 10) (by omega)]; rfl
  unfold Lib.itoa decI
  by_cases hn : n < 0
  · rw [if_pos hn, if_pos hn, h]
  · rw [if_neg hn, if_neg hn, h]
    congr 1; omega
end Go.Proofs.YtefnkkjmcfpiaaaDoor
