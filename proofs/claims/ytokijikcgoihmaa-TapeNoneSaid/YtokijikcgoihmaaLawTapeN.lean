/- Layer 10's laws TapeNone and TapeBurns, out of what the code's tape does. -/
import Derived.Test.YtokijikcgoihmaaTapeLaw
namespace Go.Proofs.Ytokijikcgoihmaa
open Go.RowKit
set_option linter.unusedVariables false
set_option linter.unusedSimpArgs false

set_option maxRecDepth 100000 in
set_option maxHeartbeats 4000000 in
theorem tapeNone_at {CT : World → (Nat → Prop) → Nat → TP → Prop} (H : CodeTape CT) (bv : Value) (l : List UInt8) (n : Int) (w : World) (hb : RdAt w bv l) :
    Calls Try.prog 5 #[bv, .int .i64 n] w fun e w' => e = .returned (.bool true) ∧ Below w.heap.size w w' := by
  have hrd := fun W (hbw : Below w.heap.size w W) => hb.below hbw
  have h1 := Lib.hid (fun W => H.nfuse W n)
  have h2 := Lib.hid (fun W => H.ncrash W n)
  have h3 := Lib.hid (fun W (hbw : Below w.heap.size w W) => H.nwrite W bv l (hrd W hbw))
  have h4 := Lib.hid (fun W => H.nsync W)
  have h5 := Lib.hid (fun W (hbw : Below w.heap.size w W) => H.nswap W bv l (hrd W hbw))
  have h6 := Lib.hid (fun W => H.nbytes W)
  have h7 := Lib.hid (fun W => H.nsure W)
  have h8 := Lib.hid (fun W => answers10_any H W)
  clear H hrd hb
  go_enter Try.func5, Try.ntmps5
  go_wp2_with fail
  refine (h1.out _).mono ?_
  rintro e w1 ⟨rfl, hb1⟩
  have B1 := Lib.hid hb1; clear hb1
  dsimp only
  go_wp2_with fail
  refine (h2.out _).mono ?_
  rintro e w2 ⟨rfl, hb⟩
  have B2 := Lib.hid (B1.out.chain hb); clear hb
  dsimp only
  go_wp2_with fail
  refine (h8.out _).mono ?_
  rintro e w3 ⟨rfl, hb⟩
  have B3 := Lib.hid (B2.out.chain hb); clear hb
  dsimp only
  go_wp2_with fail
  refine (h3.out _ B3.out).mono ?_
  rintro e w4 ⟨rfl, hb⟩
  have B4 := Lib.hid (B3.out.chain hb); clear hb
  dsimp only
  go_wp2_with fail
  refine (h4.out _).mono ?_
  rintro e w5 ⟨rfl, hb⟩
  have B5 := Lib.hid (B4.out.chain hb); clear hb
  dsimp only
  go_wp2_with fail
  refine (h5.out _ B5.out).mono ?_
  rintro e w6 ⟨rfl, hb⟩
  have B6 := Lib.hid (B5.out.chain hb); clear hb
  dsimp only
  go_wp2_with fail
  refine (h6.out _).mono ?_
  rintro e w7 ⟨⟨A, c, rfl⟩, hb⟩
  have B7 := Lib.hid (B6.out.chain hb); clear hb
  dsimp only
  go_wp2_with fail
  refine (h7.out _).mono ?_
  rintro e w8 ⟨rfl, hb⟩
  have B8 := Lib.hid (B7.out.chain hb); clear hb
  dsimp only
  go_wp2
  go_ret
  exact ⟨rfl, B8.out⟩
end Go.Proofs.Ytokijikcgoihmaa
