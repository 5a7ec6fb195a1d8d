/-
  DERIVED. GIVEN WITH THE SEED: THE CARDS: each row of YthbbeojhipcjiaaDoorRows.lean that lists a variable, with what it lists TIED to the program's text (the seventh form; the later family's looks); each row that meets fmt, with fmt's text TOLD by the authors' own Lean function (tested against real Go, not proved from fmt's source: count such statements apart). THE CARD IS WHAT COUNTS. Prove the row's statement (the work); the ties are given (YthbbeojhipcjiaaDoorTie.lean); close each card by the builder's one call (the guide's Derived/Test/ToyasCard.lean, 'card_holds'). Laid BY PROGRAM, IN A SANDBOX (cutbox-door.mjs). By AI agents, Wed Nov 11 2026. No macro, syntax, notation, axiom, sorry.
-/
import Derived.Test.YthbbeojhipcjiaaDoorRows
import GoSem.ClaimSeven
namespace Go.Proofs.YthbbeojhipcjiaaDoor
namespace Rows

/-- THE TIED CARD OF 'exequaturlaw05.JsonObject'. -/
def jsonObjectCard : Claim7 := { stood := { row := jsonObjectRow, standIns := [], harness := (true, "c523ef45a15a7e73ded0d0668621029e8fc0404941814dfd77fdbcc9ec61e1dc"), looks := true }, kinds := [], alts := [], laidByText := true, laidKinds := [.data, .data, .data, .sentinel, .sentinel], laidTests := true, laidLooks := .later }
def JsonObjectCardSaid : Prop := Claim7.holds Tryd.pinned (.plain (OpenSpec.ofChange jsonObjectSpec)) jsonObjectCard

/-- THE TIED CARD OF 'exequaturlaw06.JwsSigns'. -/
def jwsSignsCard : Claim7 := { stood := { row := jwsSignsRow, standIns := [], harness := (true, "c523ef45a15a7e73ded0d0668621029e8fc0404941814dfd77fdbcc9ec61e1dc"), looks := true }, kinds := [], alts := [], laidByText := true, laidKinds := [.data, .data, .data, .data, .data, .pinned], laidTests := true, laidLooks := .later }
def JwsSignsCardSaid : Prop := Claim7.holds Tryd.pinned (.plain (OpenSpec.ofChange jwsSignsSpec)) jwsSignsCard

/-- THE TIED CARD OF 'exequaturlaw06.JwsReads'. -/
def jwsReadsCard : Claim7 := { stood := { row := jwsReadsRow, standIns := [], harness := (true, "c523ef45a15a7e73ded0d0668621029e8fc0404941814dfd77fdbcc9ec61e1dc"), looks := true }, kinds := [], alts := [], laidByText := true, laidKinds := [.data, .data, .data, .data, .data, .pinned], laidTests := true, laidLooks := .later }
def JwsReadsCardSaid : Prop := Claim7.holds Tryd.pinned (.plain (OpenSpec.ofChange jwsReadsSpec)) jwsReadsCard

/-- THE TIED CARD OF 'exequaturlaw06.JwsHeads'. -/
def jwsHeadsCard : Claim7 := { stood := { row := jwsHeadsRow, standIns := [], harness := (true, "c523ef45a15a7e73ded0d0668621029e8fc0404941814dfd77fdbcc9ec61e1dc"), looks := true }, kinds := [], alts := [], laidByText := true, laidKinds := [.data, .data, .data, .data, .data, .pinned], laidTests := true, laidLooks := .later }
def JwsHeadsCardSaid : Prop := Claim7.holds Tryd.pinned (.plain (OpenSpec.ofChange jwsHeadsSpec)) jwsHeadsCard

/-- THE SECOND FORM's CARD OF 'exequaturlaw05.JsonObject'. -/
def jsonObjectUptoCard : Claim7 := { stood := { row := jsonObjectUptoRow, standIns := [], harness := (true, "c523ef45a15a7e73ded0d0668621029e8fc0404941814dfd77fdbcc9ec61e1dc"), looks := true }, kinds := [], alts := [], laidByText := true, laidKinds := [.data, .data, .data, .sentinel, .sentinel], laidTests := true, laidLooks := .later }
def JsonObjectUptoCardSaid : Prop := Claim7.holds Tryd.pinned (.plain (OpenSpec.upto jsonObjectSpec)) jsonObjectUptoCard

/-- THE SECOND FORM's CARD OF 'exequaturlaw06.JwsSigns'. -/
def jwsSignsUptoCard : Claim7 := { stood := { row := jwsSignsUptoRow, standIns := [], harness := (true, "c523ef45a15a7e73ded0d0668621029e8fc0404941814dfd77fdbcc9ec61e1dc"), looks := true }, kinds := [], alts := [], laidByText := true, laidKinds := [.data, .data, .data, .data, .data, .pinned], laidTests := true, laidLooks := .later }
def JwsSignsUptoCardSaid : Prop := Claim7.holds Tryd.pinned (.plain (OpenSpec.upto jwsSignsSpec)) jwsSignsUptoCard

/-- THE SECOND FORM's CARD OF 'exequaturlaw06.JwsReads'. -/
def jwsReadsUptoCard : Claim7 := { stood := { row := jwsReadsUptoRow, standIns := [], harness := (true, "c523ef45a15a7e73ded0d0668621029e8fc0404941814dfd77fdbcc9ec61e1dc"), looks := true }, kinds := [], alts := [], laidByText := true, laidKinds := [.data, .data, .data, .data, .data, .pinned], laidTests := true, laidLooks := .later }
def JwsReadsUptoCardSaid : Prop := Claim7.holds Tryd.pinned (.plain (OpenSpec.upto jwsReadsSpec)) jwsReadsUptoCard

/-- THE SECOND FORM's CARD OF 'exequaturlaw06.JwsHeads'. -/
def jwsHeadsUptoCard : Claim7 := { stood := { row := jwsHeadsUptoRow, standIns := [], harness := (true, "c523ef45a15a7e73ded0d0668621029e8fc0404941814dfd77fdbcc9ec61e1dc"), looks := true }, kinds := [], alts := [], laidByText := true, laidKinds := [.data, .data, .data, .data, .data, .pinned], laidTests := true, laidLooks := .later }
def JwsHeadsUptoCardSaid : Prop := Claim7.holds Tryd.pinned (.plain (OpenSpec.upto jwsHeadsSpec)) jwsHeadsUptoCard
end Rows
end Go.Proofs.YthbbeojhipcjiaaDoor
