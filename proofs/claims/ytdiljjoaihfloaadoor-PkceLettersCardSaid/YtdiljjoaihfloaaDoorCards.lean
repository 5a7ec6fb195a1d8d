/-
  DERIVED. GIVEN WITH THE SEED: THE CARDS: each row of YtdiljjoaihfloaaDoorRows.lean that lists a variable, with what it lists TIED to the program's text (the seventh form; the later family's looks); each row that meets fmt, with fmt's text TOLD by the authors' own Lean function (tested against real Go, not proved from fmt's source: count such statements apart). THE CARD IS WHAT COUNTS. Prove the row's statement (the work); the ties are given (YtdiljjoaihfloaaDoorTie.lean); close each card by the builder's one call (the guide's Derived/Test/ToyasCard.lean, 'card_holds'). Laid BY PROGRAM, IN A SANDBOX (cutbox-door.mjs). By AI agents, Wed Nov 11 2026. No macro, syntax, notation, axiom, sorry.
-/
import Derived.Test.YtdiljjoaihfloaaDoorRows
import GoSem.ClaimSeven
namespace Go.Proofs.YtdiljjoaihfloaaDoor
namespace Rows

/-- THE TIED CARD OF 'exequaturlaw09.PkceRight'. -/
def pkceRightCard : Claim7 := { stood := { row := pkceRightRow, standIns := [], harness := (true, "02e804b71a10e1fd784b4f5426062d79ea15cccf3004df0520c7634415765066"), looks := false }, kinds := [], alts := [], laidByText := true, laidKinds := [.data], laidTests := true, laidLooks := .later }
def PkceRightCardSaid : Prop := Claim7.holds Tryd.pinned (.plain (OpenSpec.ofChange pkceRightSpec)) pkceRightCard

/-- THE TIED CARD OF 'exequaturlaw09.PkceLetters'. -/
def pkceLettersCard : Claim7 := { stood := { row := pkceLettersRow, standIns := [], harness := (true, "02e804b71a10e1fd784b4f5426062d79ea15cccf3004df0520c7634415765066"), looks := false }, kinds := [], alts := [], laidByText := true, laidKinds := [.data], laidTests := true, laidLooks := .later }
def PkceLettersCardSaid : Prop := Claim7.holds Tryd.pinned (.plain (OpenSpec.ofChange pkceLettersSpec)) pkceLettersCard

/-- THE SECOND FORM's CARD OF 'exequaturlaw09.PkceRight'. -/
def pkceRightUptoCard : Claim7 := { stood := { row := pkceRightUptoRow, standIns := [], harness := (true, "02e804b71a10e1fd784b4f5426062d79ea15cccf3004df0520c7634415765066"), looks := false }, kinds := [], alts := [], laidByText := true, laidKinds := [.data], laidTests := true, laidLooks := .later }
def PkceRightUptoCardSaid : Prop := Claim7.holds Tryd.pinned (.plain (OpenSpec.upto pkceRightSpec)) pkceRightUptoCard

/-- THE SECOND FORM's CARD OF 'exequaturlaw09.PkceLetters'. -/
def pkceLettersUptoCard : Claim7 := { stood := { row := pkceLettersUptoRow, standIns := [], harness := (true, "02e804b71a10e1fd784b4f5426062d79ea15cccf3004df0520c7634415765066"), looks := false }, kinds := [], alts := [], laidByText := true, laidKinds := [.data], laidTests := true, laidLooks := .later }
def PkceLettersUptoCardSaid : Prop := Claim7.holds Tryd.pinned (.plain (OpenSpec.upto pkceLettersSpec)) pkceLettersUptoCard
end Rows
end Go.Proofs.YtdiljjoaihfloaaDoor
