/- strings.Clone: the same text. -/
import Derived.Test.YtobicmpgfiddhaaDoorCellar
import Derived.Test.YtobicmpgfiddhaaDoorShelf
namespace Go.Proofs.YtobicmpgfiddhaaDoor
open Go.RowKit

set_option maxRecDepth 100000 in
theorem sclone_any (s : ByteArray) (hs : s.size ≤ 281474976710656) (w : World) :
    Calls Tryd.prog 32 #[.string s] w fun e w' => e = .returned (.string s) ∧ Below w.heap.size w w' := by
  have h := Lib.hid (Tryd.stringslite_Clone s w hs)
  go_enter Tryd.func32, Tryd.ntmps32
  go_wp2_with fail
  refine h.out.mono ?_
  rintro e w1 ⟨rfl, hb1⟩
  have B1 := Lib.hid hb1
  clear hb1
  dsimp only
  go_wp2
  go_ret
  exact ⟨rfl, B1.out⟩
end Go.Proofs.YtobicmpgfiddhaaDoor
