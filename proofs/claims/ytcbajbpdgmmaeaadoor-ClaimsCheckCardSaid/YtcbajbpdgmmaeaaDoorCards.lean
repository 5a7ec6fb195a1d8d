/-
  DERIVED. GIVEN WITH THE SEED: THE CARDS: each row of YtcbajbpdgmmaeaaDoorRows.lean that lists a variable, with what it lists TIED to the program's text (the seventh form; the later family's looks); each row that meets fmt, with fmt's text TOLD by the authors' own Lean function (tested against real Go, not proved from fmt's source: count such statements apart). THE CARD IS WHAT COUNTS. Prove the row's statement (the work); the ties are given (YtcbajbpdgmmaeaaDoorTie.lean); close each card by the builder's one call (the guide's Derived/Test/ToyasCard.lean, 'card_holds'). Laid BY PROGRAM, IN A SANDBOX (cutbox-door.mjs). By AI agents, Wed Nov 11 2026. No macro, syntax, notation, axiom, sorry.
-/
import Derived.Test.YtcbajbpdgmmaeaaDoorRows
import GoSem.ClaimSeven
namespace Go.Proofs.YtcbajbpdgmmaeaaDoor
namespace Rows

/-- THE TIED CARD OF 'exequaturlaw08.ClaimsMake'. -/
def claimsMakeCard : Claim7 := { stood := { row := claimsMakeRow, standIns := [], harness := (true, "72fcadd77367ea723e86ae6d9dc9f541a7dbf1b413bc6e5762a92af40ada844d"), looks := true }, kinds := [], alts := [], laidByText := true, laidKinds := [.data, .data, .data, .sentinel, .sentinel], laidTests := true, laidLooks := .later }
def ClaimsMakeCardSaid : Prop := Claim7.holds Tryd.pinned (.plain (OpenSpec.ofChange claimsMakeSpec)) claimsMakeCard

/-- THE TIED CARD OF 'exequaturlaw08.ClaimsCheck'. -/
def claimsCheckCard : Claim7 := { stood := { row := claimsCheckRow, standIns := [], harness := (true, "72fcadd77367ea723e86ae6d9dc9f541a7dbf1b413bc6e5762a92af40ada844d"), looks := true }, kinds := [], alts := [], laidByText := true, laidKinds := [.data, .data, .data, .sentinel, .sentinel], laidTests := true, laidLooks := .later }
def ClaimsCheckCardSaid : Prop := Claim7.holds Tryd.pinned (.plain (OpenSpec.ofChange claimsCheckSpec)) claimsCheckCard

/-- THE TIED CARD OF 'exequaturlaw08.ClaimsFit'. -/
def claimsFitCard : Claim7 := { stood := { row := claimsFitRow, standIns := [], harness := (true, "72fcadd77367ea723e86ae6d9dc9f541a7dbf1b413bc6e5762a92af40ada844d"), looks := true }, kinds := [], alts := [], laidByText := true, laidKinds := [.data, .data, .data, .sentinel, .sentinel], laidTests := true, laidLooks := .later }
def ClaimsFitCardSaid : Prop := Claim7.holds Tryd.pinned (.plain (OpenSpec.ofChange claimsFitSpec)) claimsFitCard

/-- THE TIED CARD OF 'exequaturlaw08.ClaimsWrong'. -/
def claimsWrongCard : Claim7 := { stood := { row := claimsWrongRow, standIns := [], harness := (true, "72fcadd77367ea723e86ae6d9dc9f541a7dbf1b413bc6e5762a92af40ada844d"), looks := true }, kinds := [], alts := [], laidByText := true, laidKinds := [.data, .data, .data, .sentinel, .sentinel], laidTests := true, laidLooks := .later }
def ClaimsWrongCardSaid : Prop := Claim7.holds Tryd.pinned (.plain (OpenSpec.ofChange claimsWrongSpec)) claimsWrongCard

/-- THE TIED CARD OF 'exequaturlaw08.ClaimsKeys'. -/
def claimsKeysCard : Claim7 := { stood := { row := claimsKeysRow, standIns := [], harness := (true, "72fcadd77367ea723e86ae6d9dc9f541a7dbf1b413bc6e5762a92af40ada844d"), looks := true }, kinds := [], alts := [], laidByText := true, laidKinds := [.data, .data, .data, .sentinel, .sentinel], laidTests := true, laidLooks := .later }
def ClaimsKeysCardSaid : Prop := Claim7.holds Tryd.pinned (.plain (OpenSpec.ofChange claimsKeysSpec)) claimsKeysCard

/-- THE SECOND FORM's CARD OF 'exequaturlaw08.ClaimsMake'. -/
def claimsMakeUptoCard : Claim7 := { stood := { row := claimsMakeUptoRow, standIns := [], harness := (true, "72fcadd77367ea723e86ae6d9dc9f541a7dbf1b413bc6e5762a92af40ada844d"), looks := true }, kinds := [], alts := [], laidByText := true, laidKinds := [.data, .data, .data, .sentinel, .sentinel], laidTests := true, laidLooks := .later }
def ClaimsMakeUptoCardSaid : Prop := Claim7.holds Tryd.pinned (.plain (OpenSpec.upto claimsMakeSpec)) claimsMakeUptoCard

/-- THE SECOND FORM's CARD OF 'exequaturlaw08.ClaimsCheck'. -/
def claimsCheckUptoCard : Claim7 := { stood := { row := claimsCheckUptoRow, standIns := [], harness := (true, "72fcadd77367ea723e86ae6d9dc9f541a7dbf1b413bc6e5762a92af40ada844d"), looks := true }, kinds := [], alts := [], laidByText := true, laidKinds := [.data, .data, .data, .sentinel, .sentinel], laidTests := true, laidLooks := .later }
def ClaimsCheckUptoCardSaid : Prop := Claim7.holds Tryd.pinned (.plain (OpenSpec.upto claimsCheckSpec)) claimsCheckUptoCard

/-- THE SECOND FORM's CARD OF 'exequaturlaw08.ClaimsFit'. -/
def claimsFitUptoCard : Claim7 := { stood := { row := claimsFitUptoRow, standIns := [], harness := (true, "72fcadd77367ea723e86ae6d9dc9f541a7dbf1b413bc6e5762a92af40ada844d"), looks := true }, kinds := [], alts := [], laidByText := true, laidKinds := [.data, .data, .data, .sentinel, .sentinel], laidTests := true, laidLooks := .later }
def ClaimsFitUptoCardSaid : Prop := Claim7.holds Tryd.pinned (.plain (OpenSpec.upto claimsFitSpec)) claimsFitUptoCard

/-- THE SECOND FORM's CARD OF 'exequaturlaw08.ClaimsWrong'. -/
def claimsWrongUptoCard : Claim7 := { stood := { row := claimsWrongUptoRow, standIns := [], harness := (true, "72fcadd77367ea723e86ae6d9dc9f541a7dbf1b413bc6e5762a92af40ada844d"), looks := true }, kinds := [], alts := [], laidByText := true, laidKinds := [.data, .data, .data, .sentinel, .sentinel], laidTests := true, laidLooks := .later }
def ClaimsWrongUptoCardSaid : Prop := Claim7.holds Tryd.pinned (.plain (OpenSpec.upto claimsWrongSpec)) claimsWrongUptoCard

/-- THE SECOND FORM's CARD OF 'exequaturlaw08.ClaimsKeys'. -/
def claimsKeysUptoCard : Claim7 := { stood := { row := claimsKeysUptoRow, standIns := [], harness := (true, "72fcadd77367ea723e86ae6d9dc9f541a7dbf1b413bc6e5762a92af40ada844d"), looks := true }, kinds := [], alts := [], laidByText := true, laidKinds := [.data, .data, .data, .sentinel, .sentinel], laidTests := true, laidLooks := .later }
def ClaimsKeysUptoCardSaid : Prop := Claim7.holds Tryd.pinned (.plain (OpenSpec.upto claimsKeysSpec)) claimsKeysUptoCard
end Rows
end Go.Proofs.YtcbajbpdgmmaeaaDoor
