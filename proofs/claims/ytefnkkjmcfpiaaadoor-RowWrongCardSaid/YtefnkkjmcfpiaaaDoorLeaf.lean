/- Contracts of the leaves of layer 1 and of its reference. -/
import Derived.Test.YtefnkkjmcfpiaaaDoorBase
import Derived.Test.YtefnkkjmcfpiaaaDoorB64
namespace Go.Proofs.YtefnkkjmcfpiaaaDoor
open Go.RowKit

/-! ## strings.IndexByte -/
set_option maxRecDepth 100000 in
theorem stringslite_any (s : ByteArray) (c : Int) (w : World) :
    Calls Tryd.prog 59 #[.string s, .int .u8 c] w fun e w' => e = .returned (.int .i64 (Lib.indexByte s.data.toList c.toNat.toUInt8)) ∧ w = w' := by
  go_enter Tryd.func59, Tryd.ntmps59
  go_wp2
  rw [run_callFunc_extern Tryd.func70 (by kernel_rfl) (by kernel_rfl) (by kernel_rfl) (e := Extern.BytealgIndexByte.indexByte) (by kernel_rfl), Lib.run_indexByteString]
  simp only [Result.andThen]
  rw [Oper.upon_value]
  go_wp2
  go_ret
  exact ⟨rfl, rfl⟩
end Go.Proofs.YtefnkkjmcfpiaaaDoor
