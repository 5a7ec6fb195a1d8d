/-
  DERIVED. GIVEN WITH THE SEED: THE CARDS: each row of YtiofgepfcacgjaaDoorRows.lean that lists a variable, with what it lists TIED to the program's text (the seventh form; the later family's looks); each row that meets fmt, with fmt's text TOLD by the authors' own Lean function (tested against real Go, not proved from fmt's source: count such statements apart). THE CARD IS WHAT COUNTS. Prove the row's statement (the work); the ties are given (YtiofgepfcacgjaaDoorTie.lean); close each card by the builder's one call (the guide's Derived/Test/ToyasCard.lean, 'card_holds'). Laid BY PROGRAM, IN A SANDBOX (cutbox-door.mjs). By AI agents, Wed Nov 11 2026. No macro, syntax, notation, axiom, sorry.
-/
import Derived.Test.YtiofgepfcacgjaaDoorRows
import GoSem.ClaimSeven
namespace Go.Proofs.YtiofgepfcacgjaaDoor
namespace Rows

/-- THE TIED CARD OF 'exequaturlaw16.ClientGood'. -/
def clientGoodCard : Claim7 := { stood := { row := clientGoodRow, standIns := [], harness := (true, "4389e9b231ef3c427c2f7690f62838b7fb581cb4f365622641a37831f39c354c"), looks := false }, kinds := [], alts := [], laidByText := true, laidKinds := [.data, .pinned], laidTests := true, laidLooks := .later }
def ClientGoodCardSaid : Prop := Claim7.holds Tryd.pinned (.plain (OpenSpec.ofChange clientGoodSpec)) clientGoodCard

/-- THE TIED CARD OF 'exequaturlaw16.ClientFinds'. -/
def clientFindsCard : Claim7 := { stood := { row := clientFindsRow, standIns := [], harness := (true, "4389e9b231ef3c427c2f7690f62838b7fb581cb4f365622641a37831f39c354c"), looks := false }, kinds := [], alts := [], laidByText := true, laidKinds := [.data, .pinned], laidTests := true, laidLooks := .later }
def ClientFindsCardSaid : Prop := Claim7.holds Tryd.pinned (.plain (OpenSpec.ofChange clientFindsSpec)) clientFindsCard

/-- THE TIED CARD OF 'exequaturlaw16.ClientRedirects'. -/
def clientRedirectsCard : Claim7 := { stood := { row := clientRedirectsRow, standIns := [], harness := (true, "4389e9b231ef3c427c2f7690f62838b7fb581cb4f365622641a37831f39c354c"), looks := false }, kinds := [], alts := [], laidByText := true, laidKinds := [.data, .pinned], laidTests := true, laidLooks := .later }
def ClientRedirectsCardSaid : Prop := Claim7.holds Tryd.pinned (.plain (OpenSpec.ofChange clientRedirectsSpec)) clientRedirectsCard

/-- THE TIED CARD OF 'exequaturlaw16.ClientAuths'. -/
def clientAuthsCard : Claim7 := { stood := { row := clientAuthsRow, standIns := [], harness := (true, "4389e9b231ef3c427c2f7690f62838b7fb581cb4f365622641a37831f39c354c"), looks := false }, kinds := [], alts := [], laidByText := true, laidKinds := [.data, .pinned], laidTests := true, laidLooks := .later }
def ClientAuthsCardSaid : Prop := Claim7.holds Tryd.pinned (.plain (OpenSpec.ofChange clientAuthsSpec)) clientAuthsCard

/-- THE TIED CARD OF 'exequaturlaw16.ClientOwn'. -/
def clientOwnCard : Claim7 := { stood := { row := clientOwnRow, standIns := [], harness := (true, "4389e9b231ef3c427c2f7690f62838b7fb581cb4f365622641a37831f39c354c"), looks := false }, kinds := [], alts := [], laidByText := true, laidKinds := [.data, .pinned], laidTests := true, laidLooks := .later }
def ClientOwnCardSaid : Prop := Claim7.holds Tryd.pinned (.plain (OpenSpec.ofChange clientOwnSpec)) clientOwnCard

/-- THE SECOND FORM's CARD OF 'exequaturlaw16.ClientGood'. -/
def clientGoodUptoCard : Claim7 := { stood := { row := clientGoodUptoRow, standIns := [], harness := (true, "4389e9b231ef3c427c2f7690f62838b7fb581cb4f365622641a37831f39c354c"), looks := false }, kinds := [], alts := [], laidByText := true, laidKinds := [.data, .pinned], laidTests := true, laidLooks := .later }
def ClientGoodUptoCardSaid : Prop := Claim7.holds Tryd.pinned (.plain (OpenSpec.upto clientGoodSpec)) clientGoodUptoCard

/-- THE SECOND FORM's CARD OF 'exequaturlaw16.ClientFinds'. -/
def clientFindsUptoCard : Claim7 := { stood := { row := clientFindsUptoRow, standIns := [], harness := (true, "4389e9b231ef3c427c2f7690f62838b7fb581cb4f365622641a37831f39c354c"), looks := false }, kinds := [], alts := [], laidByText := true, laidKinds := [.data, .pinned], laidTests := true, laidLooks := .later }
def ClientFindsUptoCardSaid : Prop := Claim7.holds Tryd.pinned (.plain (OpenSpec.upto clientFindsSpec)) clientFindsUptoCard

/-- THE SECOND FORM's CARD OF 'exequaturlaw16.ClientRedirects'. -/
def clientRedirectsUptoCard : Claim7 := { stood := { row := clientRedirectsUptoRow, standIns := [], harness := (true, "4389e9b231ef3c427c2f7690f62838b7fb581cb4f365622641a37831f39c354c"), looks := false }, kinds := [], alts := [], laidByText := true, laidKinds := [.data, .pinned], laidTests := true, laidLooks := .later }
def ClientRedirectsUptoCardSaid : Prop := Claim7.holds Tryd.pinned (.plain (OpenSpec.upto clientRedirectsSpec)) clientRedirectsUptoCard

/-- THE SECOND FORM's CARD OF 'exequaturlaw16.ClientAuths'. -/
def clientAuthsUptoCard : Claim7 := { stood := { row := clientAuthsUptoRow, standIns := [], harness := (true, "4389e9b231ef3c427c2f7690f62838b7fb581cb4f365622641a37831f39c354c"), looks := false }, kinds := [], alts := [], laidByText := true, laidKinds := [.data, .pinned], laidTests := true, laidLooks := .later }
def ClientAuthsUptoCardSaid : Prop := Claim7.holds Tryd.pinned (.plain (OpenSpec.upto clientAuthsSpec)) clientAuthsUptoCard

/-- THE SECOND FORM's CARD OF 'exequaturlaw16.ClientOwn'. -/
def clientOwnUptoCard : Claim7 := { stood := { row := clientOwnUptoRow, standIns := [], harness := (true, "4389e9b231ef3c427c2f7690f62838b7fb581cb4f365622641a37831f39c354c"), looks := false }, kinds := [], alts := [], laidByText := true, laidKinds := [.data, .pinned], laidTests := true, laidLooks := .later }
def ClientOwnUptoCardSaid : Prop := Claim7.holds Tryd.pinned (.plain (OpenSpec.upto clientOwnSpec)) clientOwnUptoCard
end Rows
end Go.Proofs.YtiofgepfcacgjaaDoor
