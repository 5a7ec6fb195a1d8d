/- Layer 10: the laws at an argument that is a slice of bytes. -/
import Derived.Test.YtokijikcgoihmaaLawTapeN
import Derived.Test.YtokijikcgoihmaaLawTapeB
import Derived.Test.YtokijikcgoihmaaLawTapeS
import Derived.Test.YtokijikcgoihmaaLawTapeP
import Derived.Test.YtokijikcgoihmaaOpenBytes
namespace Go.Proofs.Ytokijikcgoihmaa
open Go.RowKit
set_option linter.unusedVariables false

theorem tapeNone_row {CT : World → (Nat → Prop) → Nat → TP → Prop} (H : CodeTape CT) (A : Option Addr) (c : Nat) (l : List UInt8) (n : Int) {w : World} (hb : RdAt w (.slice A l.length c) l) (_ : (Lit.int .i64 n).wf = true) :
    Calls Try.prog 5 #[.slice A l.length c, .int .i64 n] w fun e w' => e = .returned (.bool true) ∧ Below w.heap.size w w' := tapeNone_at H _ l n w hb
theorem tapeBurns_row {CT : World → (Nat → Prop) → Nat → TP → Prop} (H : CodeTape CT) (A : Option Addr) (c : Nat) (l : List UInt8) (x : Int) {w : World} (hb : RdAt w (.slice A l.length c) l) (hx : (Lit.int .u8 x).wf = true) :
    Calls Try.prog 6 #[.slice A l.length c, .int .u8 x] w fun e w' => e = .returned (.bool true) ∧ Below w.heap.size w w' := tapeBurns_at H _ l x hx w hb
theorem tapeSure_row {CT : World → (Nat → Prop) → Nat → TP → Prop} (H : CodeTape CT) (A : Option Addr) (c : Nat) (l : List UInt8) (A2 : Option Addr) (c2 : Nat) (l2 : List UInt8) (k x : Int) {w : World} (ha : RdAt w (.slice A l.length c) l) (hb : RdAt w (.slice A2 l2.length c2) l2) (hk : (Lit.int .i64 k).wf = true) (hx : (Lit.int .u8 x).wf = true) :
    Calls Try.prog 4 #[.slice A l.length c, .slice A2 l2.length c2, .int .i64 k, .int .u8 x] w fun e w' => e = .returned (.bool true) ∧ Below w.heap.size w w' := tapeSure_at H _ _ l l2 k x hk hx w ha hb
theorem tapePlays_row {CT : World → (Nat → Prop) → Nat → TP → Prop} (H : CodeTape CT) (A : Option Addr) (c : Nat) (l : List ActP) {w : World} (hA : Acts w A l ∧ l.length ≤ reachBytes) :
    Calls Try.prog 3 #[.slice A l.length c] w fun e w' => e = .returned (.bool true) ∧ Below w.heap.size w w' := tapePlays_at H A c l hA
end Go.Proofs.Ytokijikcgoihmaa
