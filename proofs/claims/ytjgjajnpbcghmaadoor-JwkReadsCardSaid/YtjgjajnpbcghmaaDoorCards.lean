/-
  DERIVED. GIVEN WITH THE SEED: THE CARDS: each row of YtjgjajnpbcghmaaDoorRows.lean that lists a variable, with what it lists TIED to the program's text (the seventh form; the later family's looks); each row that meets fmt, with fmt's text TOLD by the authors' own Lean function (tested against real Go, not proved from fmt's source: count such statements apart). THE CARD IS WHAT COUNTS. Prove the row's statement (the work); the ties are given (YtjgjajnpbcghmaaDoorTie.lean); close each card by the builder's one call (the guide's Derived/Test/ToyasCard.lean, 'card_holds'). Laid BY PROGRAM, IN A SANDBOX (cutbox-door.mjs). By AI agents, Wed Nov 11 2026. No macro, syntax, notation, axiom, sorry.
-/
import Derived.Test.YtjgjajnpbcghmaaDoorRows
import GoSem.ClaimSeven
namespace Go.Proofs.YtjgjajnpbcghmaaDoor
namespace Rows

/-- THE TIED CARD OF 'exequaturlaw07.JwkBack'. -/
def jwkBackCard : Claim7 := { stood := { row := jwkBackRow, standIns := [], harness := (true, "2181956680de827cf98dfb3e22a06749a579d21e6114e53f94b000666bae5d95"), looks := true }, kinds := [], alts := [], laidByText := true, laidKinds := [.data, .data, .data, .sentinel, .sentinel], laidTests := true, laidLooks := .later }
def JwkBackCardSaid : Prop := Claim7.holds Tryd.pinned (.plain (OpenSpec.ofChange jwkBackSpec)) jwkBackCard

/-- THE TIED CARD OF 'exequaturlaw07.JwkReads'. -/
def jwkReadsCard : Claim7 := { stood := { row := jwkReadsRow, standIns := [], harness := (true, "2181956680de827cf98dfb3e22a06749a579d21e6114e53f94b000666bae5d95"), looks := true }, kinds := [], alts := [], laidByText := true, laidKinds := [.data, .data, .data, .sentinel, .sentinel], laidTests := true, laidLooks := .later }
def JwkReadsCardSaid : Prop := Claim7.holds Tryd.pinned (.plain (OpenSpec.ofChange jwkReadsSpec)) jwkReadsCard

/-- THE TIED CARD OF 'exequaturlaw07.JwkCuts'. -/
def jwkCutsCard : Claim7 := { stood := { row := jwkCutsRow, standIns := [], harness := (true, "2181956680de827cf98dfb3e22a06749a579d21e6114e53f94b000666bae5d95"), looks := true }, kinds := [], alts := [], laidByText := true, laidKinds := [.data, .data, .data, .sentinel, .sentinel], laidTests := true, laidLooks := .later }
def JwkCutsCardSaid : Prop := Claim7.holds Tryd.pinned (.plain (OpenSpec.ofChange jwkCutsSpec)) jwkCutsCard

/-- THE SECOND FORM's CARD OF 'exequaturlaw07.JwkBack'. -/
def jwkBackUptoCard : Claim7 := { stood := { row := jwkBackUptoRow, standIns := [], harness := (true, "2181956680de827cf98dfb3e22a06749a579d21e6114e53f94b000666bae5d95"), looks := true }, kinds := [], alts := [], laidByText := true, laidKinds := [.data, .data, .data, .sentinel, .sentinel], laidTests := true, laidLooks := .later }
def JwkBackUptoCardSaid : Prop := Claim7.holds Tryd.pinned (.plain (OpenSpec.upto jwkBackSpec)) jwkBackUptoCard

/-- THE SECOND FORM's CARD OF 'exequaturlaw07.JwkReads'. -/
def jwkReadsUptoCard : Claim7 := { stood := { row := jwkReadsUptoRow, standIns := [], harness := (true, "2181956680de827cf98dfb3e22a06749a579d21e6114e53f94b000666bae5d95"), looks := true }, kinds := [], alts := [], laidByText := true, laidKinds := [.data, .data, .data, .sentinel, .sentinel], laidTests := true, laidLooks := .later }
def JwkReadsUptoCardSaid : Prop := Claim7.holds Tryd.pinned (.plain (OpenSpec.upto jwkReadsSpec)) jwkReadsUptoCard

/-- THE SECOND FORM's CARD OF 'exequaturlaw07.JwkCuts'. -/
def jwkCutsUptoCard : Claim7 := { stood := { row := jwkCutsUptoRow, standIns := [], harness := (true, "2181956680de827cf98dfb3e22a06749a579d21e6114e53f94b000666bae5d95"), looks := true }, kinds := [], alts := [], laidByText := true, laidKinds := [.data, .data, .data, .sentinel, .sentinel], laidTests := true, laidLooks := .later }
def JwkCutsUptoCardSaid : Prop := Claim7.holds Tryd.pinned (.plain (OpenSpec.upto jwkCutsSpec)) jwkCutsUptoCard
end Rows
end Go.Proofs.YtjgjajnpbcghmaaDoor
