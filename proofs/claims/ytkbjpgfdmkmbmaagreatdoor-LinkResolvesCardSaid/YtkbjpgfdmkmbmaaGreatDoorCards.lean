/-
  DERIVED. GIVEN WITH THE SEED: THE CARDS: each row of YtkbjpgfdmkmbmaaGreatDoorRows.lean that lists a variable, with what it lists TIED to the program's text (the seventh form; the later family's looks); each row that meets fmt, with fmt's text TOLD by the authors' own Lean function (tested against real Go, not proved from fmt's source: count such statements apart). THE CARD IS WHAT COUNTS. Prove the row's statement (the work); the ties are given (YtkbjpgfdmkmbmaaGreatDoorTie.lean); close each card by the builder's one call (the guide's Derived/Test/ToyasCard.lean, 'card_holds'). Laid BY PROGRAM, IN A SANDBOX (cutbox-door.mjs). By AI agents, Wed Nov 11 2026. No macro, syntax, notation, axiom, sorry.
-/
import Derived.Test.YtkbjpgfdmkmbmaaGreatDoorRows
import GoSem.ClaimSeven
namespace Go.Proofs.YtkbjpgfdmkmbmaaGreatDoor
namespace Rows

/-- THE TIED CARD OF 'exequaturlaw15.LinkFinds'. -/
def linkFindsCard : Claim7 := { stood := { row := linkFindsRow, standIns := [], harness := (true, "26e22885ee021c2432a6e1c4e280ed847056c255b9d3b1e069b136a3f94f058b"), looks := false }, kinds := [], alts := [], laidByText := true, laidKinds := [.data, .data, .data, .data], laidTests := true, laidLooks := .later }
def LinkFindsCardSaid : Prop := Claim7.holds Tryz.pinned (.plain (OpenSpec.ofChange linkFindsSpec)) linkFindsCard

/-- THE TIED CARD OF 'exequaturlaw15.LinkResolves'. -/
def linkResolvesCard : Claim7 := { stood := { row := linkResolvesRow, standIns := [], harness := (true, "26e22885ee021c2432a6e1c4e280ed847056c255b9d3b1e069b136a3f94f058b"), looks := false }, kinds := [], alts := [], laidByText := true, laidKinds := [.data, .data, .data, .data], laidTests := true, laidLooks := .later }
def LinkResolvesCardSaid : Prop := Claim7.holds Tryz.pinned (.plain (OpenSpec.ofChange linkResolvesSpec)) linkResolvesCard

/-- THE SECOND FORM's CARD OF 'exequaturlaw15.LinkFinds'. -/
def linkFindsUptoCard : Claim7 := { stood := { row := linkFindsUptoRow, standIns := [], harness := (true, "26e22885ee021c2432a6e1c4e280ed847056c255b9d3b1e069b136a3f94f058b"), looks := false }, kinds := [], alts := [], laidByText := true, laidKinds := [.data, .data, .data, .data], laidTests := true, laidLooks := .later }
def LinkFindsUptoCardSaid : Prop := Claim7.holds Tryz.pinned (.plain (OpenSpec.upto linkFindsSpec)) linkFindsUptoCard

/-- THE SECOND FORM's CARD OF 'exequaturlaw15.LinkResolves'. -/
def linkResolvesUptoCard : Claim7 := { stood := { row := linkResolvesUptoRow, standIns := [], harness := (true, "26e22885ee021c2432a6e1c4e280ed847056c255b9d3b1e069b136a3f94f058b"), looks := false }, kinds := [], alts := [], laidByText := true, laidKinds := [.data, .data, .data, .data], laidTests := true, laidLooks := .later }
def LinkResolvesUptoCardSaid : Prop := Claim7.holds Tryz.pinned (.plain (OpenSpec.upto linkResolvesSpec)) linkResolvesUptoCard
end Rows
end Go.Proofs.YtkbjpgfdmkmbmaaGreatDoor
