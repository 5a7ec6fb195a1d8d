/- Layer 14's rows: the condition on the library's variables and the world's shape give what the walks ask; the door's own heap meets it. -/
import Derived.Test.YtobicmpgfiddhaaDoorRuleLaw
import Derived.Test.YtobicmpgfiddhaaDoorBoth
namespace Go.Proofs.YtobicmpgfiddhaaDoor
open Go.ChangeShapes Go.WideShapes Go.ChangeAt Go.RowKit

/-- what the rows list -/
def listedR : List (String × DataW Unit) := [("unicode/utf8.acceptRanges", Rows.laid_unicode_utf8_acceptRanges), ("unicode/utf8.first", Rows.laid_unicode_utf8_first)]
theorem var0_of_shaped {w : World} (h : w.ShapedOpen Tryd.prog) : Var0 w :=
  cell_of_shapedOpen_int (P := Tryd.prog) (g := 0) (t := 3) (zero := #[.int .i64 0]) h (of_decide_eq_true (by kernel_rfl)) (by kernel_rfl) rfl (by kernel_rfl) (by kernel_rfl) Tryd.underlying3
/-- the landed rules -/
theorem codeRule {w : World} (h : Var0 w) : CodeRule w :=
  ⟨fun W hb s hs => parse_any14 s hs W (h.below hb), fun W _ A c rs hn hz v cs hx hr hv => run_any A c rs hn hz v cs hx W hr hv⟩
theorem codeRule_of_laid {W : World} (_ : laidMetH Tryd.prog listedR W) (hs : W.ShapedOpen Tryd.prog) : CodeRule W := codeRule (var0_of_shaped hs)
/-- a table's letters as cells -/
def cellsOfData : DataW Unit → Array Value
  | .agg l => (l.map fun d => match d with
    | .lit (.int k z) => Value.int k z
    | _ => .nilIface).toArray
  | _ => #[]
/-- a heap in which the pinned table lies -/
def tableIn (h : Array Obj) (g : Nat) : Array Obj := match h[g]? with
  | some (.cells _ t fr) => h.setIfInBounds g (.cells (cellsOfData Rows.laid_unicode_utf8_first) t fr)
  | _ => h
noncomputable def doorJ (os : Os) : World := { World.doorLaid Tryd.prog 400 os with heap := tableIn (World.doorLaid Tryd.prog 400 os).heap 1 }
set_option maxRecDepth 100000 in
theorem doorJ_met (os : Os) (args : Array Value) : laidMetH Tryd.prog listedR ((doorJ os).forCall (fun _ _ => 0) ⟨#[], args, []⟩).memory :=
  laidMetH_of_parts3 (fuel := 8) (laidMet_of_run' 8 (by kernel_rfl) (by kernel_rfl)) (by kernel_rfl) (by kernel_rfl)
end Go.Proofs.YtobicmpgfiddhaaDoor
