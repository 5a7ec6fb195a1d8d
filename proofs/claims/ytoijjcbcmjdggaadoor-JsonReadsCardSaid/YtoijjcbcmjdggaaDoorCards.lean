/-
  DERIVED. GIVEN WITH THE SEED: THE CARDS: each row of YtoijjcbcmjdggaaDoorRows.lean that lists a variable, with what it lists TIED to the program's text (the seventh form; the later family's looks); each row that meets fmt, with fmt's text TOLD by the authors' own Lean function (tested against real Go, not proved from fmt's source: count such statements apart). THE CARD IS WHAT COUNTS. Prove the row's statement (the work); the ties are given (YtoijjcbcmjdggaaDoorTie.lean); close each card by the builder's one call (the guide's Derived/Test/ToyasCard.lean, 'card_holds'). Laid BY PROGRAM, IN A SANDBOX (cutbox-door.mjs). By AI agents, Wed Nov 11 2026. No macro, syntax, notation, axiom, sorry.
-/
import Derived.Test.YtoijjcbcmjdggaaDoorRows
import GoSem.ClaimSeven
namespace Go.Proofs.YtoijjcbcmjdggaaDoor
namespace Rows

/-- THE TIED CARD OF 'exequaturlaw05.JsonBack'. -/
def jsonBackCard : Claim7 := { stood := { row := jsonBackRow, standIns := [], harness := (true, "6f54bac3a5768c576ea3e16920534716862839bdc3579d10fc3920057fc15327"), looks := true }, kinds := [], alts := [], laidByText := true, laidKinds := [.data, .data, .data, .sentinel, .sentinel], laidTests := true, laidLooks := .later }
def JsonBackCardSaid : Prop := Claim7.holds Tryd.pinned (.plain (OpenSpec.ofChange jsonBackSpec)) jsonBackCard

/-- THE TIED CARD OF 'exequaturlaw05.JsonReads'. -/
def jsonReadsCard : Claim7 := { stood := { row := jsonReadsRow, standIns := [], harness := (true, "6f54bac3a5768c576ea3e16920534716862839bdc3579d10fc3920057fc15327"), looks := true }, kinds := [], alts := [], laidByText := true, laidKinds := [.data, .data, .data, .sentinel, .sentinel], laidTests := true, laidLooks := .later }
def JsonReadsCardSaid : Prop := Claim7.holds Tryd.pinned (.plain (OpenSpec.ofChange jsonReadsSpec)) jsonReadsCard

/-- THE TIED CARD OF 'exequaturlaw05.JsonFields'. -/
def jsonFieldsCard : Claim7 := { stood := { row := jsonFieldsRow, standIns := [], harness := (true, "6f54bac3a5768c576ea3e16920534716862839bdc3579d10fc3920057fc15327"), looks := true }, kinds := [], alts := [], laidByText := true, laidKinds := [.data, .data, .data, .sentinel, .sentinel], laidTests := true, laidLooks := .later }
def JsonFieldsCardSaid : Prop := Claim7.holds Tryd.pinned (.plain (OpenSpec.ofChange jsonFieldsSpec)) jsonFieldsCard

/-- THE TIED CARD OF 'exequaturlaw05.JsonObject'. -/
def jsonObjectCard : Claim7 := { stood := { row := jsonObjectRow, standIns := [], harness := (true, "6f54bac3a5768c576ea3e16920534716862839bdc3579d10fc3920057fc15327"), looks := true }, kinds := [], alts := [], laidByText := true, laidKinds := [.data, .data, .data, .sentinel, .sentinel], laidTests := true, laidLooks := .later }
def JsonObjectCardSaid : Prop := Claim7.holds Tryd.pinned (.plain (OpenSpec.ofChange jsonObjectSpec)) jsonObjectCard

/-- THE TIED CARD OF 'exequaturlaw05.JsonDeep'. -/
def jsonDeepCard : Claim7 := { stood := { row := jsonDeepRow, standIns := [], harness := (true, "6f54bac3a5768c576ea3e16920534716862839bdc3579d10fc3920057fc15327"), looks := true }, kinds := [], alts := [], laidByText := true, laidKinds := [.data, .data, .data, .sentinel, .sentinel], laidTests := true, laidLooks := .later }
def JsonDeepCardSaid : Prop := Claim7.holds Tryd.pinned (.plain (OpenSpec.ofChange jsonDeepSpec)) jsonDeepCard

/-- THE TIED CARD OF 'exequaturlaw05.JsonOwn'. -/
def jsonOwnCard : Claim7 := { stood := { row := jsonOwnRow, standIns := [], harness := (true, "6f54bac3a5768c576ea3e16920534716862839bdc3579d10fc3920057fc15327"), looks := true }, kinds := [], alts := [], laidByText := true, laidKinds := [.data, .data, .data, .sentinel, .sentinel], laidTests := true, laidLooks := .later }
def JsonOwnCardSaid : Prop := Claim7.holds Tryd.pinned (.plain (OpenSpec.ofChange jsonOwnSpec)) jsonOwnCard

/-- THE SECOND FORM's CARD OF 'exequaturlaw05.JsonBack'. -/
def jsonBackUptoCard : Claim7 := { stood := { row := jsonBackUptoRow, standIns := [], harness := (true, "6f54bac3a5768c576ea3e16920534716862839bdc3579d10fc3920057fc15327"), looks := true }, kinds := [], alts := [], laidByText := true, laidKinds := [.data, .data, .data, .sentinel, .sentinel], laidTests := true, laidLooks := .later }
def JsonBackUptoCardSaid : Prop := Claim7.holds Tryd.pinned (.plain (OpenSpec.upto jsonBackSpec)) jsonBackUptoCard

/-- THE SECOND FORM's CARD OF 'exequaturlaw05.JsonReads'. -/
def jsonReadsUptoCard : Claim7 := { stood := { row := jsonReadsUptoRow, standIns := [], harness := (true, "6f54bac3a5768c576ea3e16920534716862839bdc3579d10fc3920057fc15327"), looks := true }, kinds := [], alts := [], laidByText := true, laidKinds := [.data, .data, .data, .sentinel, .sentinel], laidTests := true, laidLooks := .later }
def JsonReadsUptoCardSaid : Prop := Claim7.holds Tryd.pinned (.plain (OpenSpec.upto jsonReadsSpec)) jsonReadsUptoCard

/-- THE SECOND FORM's CARD OF 'exequaturlaw05.JsonFields'. -/
def jsonFieldsUptoCard : Claim7 := { stood := { row := jsonFieldsUptoRow, standIns := [], harness := (true, "6f54bac3a5768c576ea3e16920534716862839bdc3579d10fc3920057fc15327"), looks := true }, kinds := [], alts := [], laidByText := true, laidKinds := [.data, .data, .data, .sentinel, .sentinel], laidTests := true, laidLooks := .later }
def JsonFieldsUptoCardSaid : Prop := Claim7.holds Tryd.pinned (.plain (OpenSpec.upto jsonFieldsSpec)) jsonFieldsUptoCard

/-- THE SECOND FORM's CARD OF 'exequaturlaw05.JsonObject'. -/
def jsonObjectUptoCard : Claim7 := { stood := { row := jsonObjectUptoRow, standIns := [], harness := (true, "6f54bac3a5768c576ea3e16920534716862839bdc3579d10fc3920057fc15327"), looks := true }, kinds := [], alts := [], laidByText := true, laidKinds := [.data, .data, .data, .sentinel, .sentinel], laidTests := true, laidLooks := .later }
def JsonObjectUptoCardSaid : Prop := Claim7.holds Tryd.pinned (.plain (OpenSpec.upto jsonObjectSpec)) jsonObjectUptoCard

/-- THE SECOND FORM's CARD OF 'exequaturlaw05.JsonDeep'. -/
def jsonDeepUptoCard : Claim7 := { stood := { row := jsonDeepUptoRow, standIns := [], harness := (true, "6f54bac3a5768c576ea3e16920534716862839bdc3579d10fc3920057fc15327"), looks := true }, kinds := [], alts := [], laidByText := true, laidKinds := [.data, .data, .data, .sentinel, .sentinel], laidTests := true, laidLooks := .later }
def JsonDeepUptoCardSaid : Prop := Claim7.holds Tryd.pinned (.plain (OpenSpec.upto jsonDeepSpec)) jsonDeepUptoCard

/-- THE SECOND FORM's CARD OF 'exequaturlaw05.JsonOwn'. -/
def jsonOwnUptoCard : Claim7 := { stood := { row := jsonOwnUptoRow, standIns := [], harness := (true, "6f54bac3a5768c576ea3e16920534716862839bdc3579d10fc3920057fc15327"), looks := true }, kinds := [], alts := [], laidByText := true, laidKinds := [.data, .data, .data, .sentinel, .sentinel], laidTests := true, laidLooks := .later }
def JsonOwnUptoCardSaid : Prop := Claim7.holds Tryd.pinned (.plain (OpenSpec.upto jsonOwnSpec)) jsonOwnUptoCard
end Rows
end Go.Proofs.YtoijjcbcmjdggaaDoor
