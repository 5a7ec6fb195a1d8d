/- JSON: the law JsonBack, of any value of bulk at most 1048576. -/
import Derived.Test.YtoijjcbcmjdggaaDoorJsonBack
import Derived.Test.YtoijjcbcmjdggaaDoorJsonAnswers
import Derived.Test.YtoijjcbcmjdggaaDoorOpenValue
namespace Go.Proofs.YtoijjcbcmjdggaaDoor
open Go.RowKit

theorem jsonBack_law {H : Type} {d0 : DataW H} (v : V) (cs : List Value) {w : World} (h0 : VIs w 0 w.heap.size v cs ∧ v.wt ≤ Rows.uptoBulk d0) (hb : Rows.uptoBulkAll [d0] ≤ 1048576) (hk : KitIn w.heap.size w) :
    Calls Tryd.prog 3 #[.agg cs.toArray] w fun e w' => e = .returned (.bool true) ∧ Below w.heap.size w w' := by
  rw [bulkAll_cons, bulkAll_nil] at hb
  refine jsonBack_at (fun w hk => answers_any w hk) (fun s hs w hk => parse_any s hs w hk) v w cs hk h0.1 fun hf => ?_
  have := show_wt v.size v (Nat.le_refl _) (fits_isgood hf)
  have := h0.2
  omega
end Go.Proofs.YtoijjcbcmjdggaaDoor
