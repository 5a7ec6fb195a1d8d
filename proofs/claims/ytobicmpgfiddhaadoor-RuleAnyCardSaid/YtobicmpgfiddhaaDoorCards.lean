/-
  DERIVED. GIVEN WITH THE SEED: THE CARDS: each row of YtobicmpgfiddhaaDoorRows.lean that lists a variable, with what it lists TIED to the program's text (the seventh form; the later family's looks); each row that meets fmt, with fmt's text TOLD by the authors' own Lean function (tested against real Go, not proved from fmt's source: count such statements apart). THE CARD IS WHAT COUNTS. Prove the row's statement (the work); the ties are given (YtobicmpgfiddhaaDoorTie.lean); close each card by the builder's one call (the guide's Derived/Test/ToyasCard.lean, 'card_holds'). Laid BY PROGRAM, IN A SANDBOX (cutbox-door.mjs). By AI agents, Wed Nov 11 2026. No macro, syntax, notation, axiom, sorry.
-/
import Derived.Test.YtobicmpgfiddhaaDoorRows
import GoSem.ClaimSeven
namespace Go.Proofs.YtobicmpgfiddhaaDoor
namespace Rows

/-- THE TIED CARD OF 'exequaturlaw14.RuleKept'. -/
def ruleKeptCard : Claim7 := { stood := { row := ruleKeptRow, standIns := [], harness := (true, "c7c67a5c82181f9af87d03747d5290f1fa2ba433ec042c7fcb8ccf42a52f2cec"), looks := false }, kinds := [], alts := [], laidByText := true, laidKinds := [.data, .pinned], laidTests := true, laidLooks := .later }
def RuleKeptCardSaid : Prop := Claim7.holds Tryd.pinned (.plain (OpenSpec.ofChange ruleKeptSpec)) ruleKeptCard

/-- THE TIED CARD OF 'exequaturlaw14.RuleAny'. -/
def ruleAnyCard : Claim7 := { stood := { row := ruleAnyRow, standIns := [], harness := (true, "c7c67a5c82181f9af87d03747d5290f1fa2ba433ec042c7fcb8ccf42a52f2cec"), looks := false }, kinds := [], alts := [], laidByText := true, laidKinds := [.data, .pinned], laidTests := true, laidLooks := .later }
def RuleAnyCardSaid : Prop := Claim7.holds Tryd.pinned (.plain (OpenSpec.ofChange ruleAnySpec)) ruleAnyCard

/-- THE TIED CARD OF 'exequaturlaw14.RuleNeeds'. -/
def ruleNeedsCard : Claim7 := { stood := { row := ruleNeedsRow, standIns := [], harness := (true, "c7c67a5c82181f9af87d03747d5290f1fa2ba433ec042c7fcb8ccf42a52f2cec"), looks := false }, kinds := [], alts := [], laidByText := true, laidKinds := [.data, .pinned], laidTests := true, laidLooks := .later }
def RuleNeedsCardSaid : Prop := Claim7.holds Tryd.pinned (.plain (OpenSpec.ofChange ruleNeedsSpec)) ruleNeedsCard

/-- THE TIED CARD OF 'exequaturlaw14.RuleOrder'. -/
def ruleOrderCard : Claim7 := { stood := { row := ruleOrderRow, standIns := [], harness := (true, "c7c67a5c82181f9af87d03747d5290f1fa2ba433ec042c7fcb8ccf42a52f2cec"), looks := false }, kinds := [], alts := [], laidByText := true, laidKinds := [.data, .pinned], laidTests := true, laidLooks := .later }
def RuleOrderCardSaid : Prop := Claim7.holds Tryd.pinned (.plain (OpenSpec.ofChange ruleOrderSpec)) ruleOrderCard

/-- THE SECOND FORM's CARD OF 'exequaturlaw14.RuleKept'. -/
def ruleKeptUptoCard : Claim7 := { stood := { row := ruleKeptUptoRow, standIns := [], harness := (true, "c7c67a5c82181f9af87d03747d5290f1fa2ba433ec042c7fcb8ccf42a52f2cec"), looks := false }, kinds := [], alts := [], laidByText := true, laidKinds := [.data, .pinned], laidTests := true, laidLooks := .later }
def RuleKeptUptoCardSaid : Prop := Claim7.holds Tryd.pinned (.plain (OpenSpec.upto ruleKeptSpec)) ruleKeptUptoCard

/-- THE SECOND FORM's CARD OF 'exequaturlaw14.RuleAny'. -/
def ruleAnyUptoCard : Claim7 := { stood := { row := ruleAnyUptoRow, standIns := [], harness := (true, "c7c67a5c82181f9af87d03747d5290f1fa2ba433ec042c7fcb8ccf42a52f2cec"), looks := false }, kinds := [], alts := [], laidByText := true, laidKinds := [.data, .pinned], laidTests := true, laidLooks := .later }
def RuleAnyUptoCardSaid : Prop := Claim7.holds Tryd.pinned (.plain (OpenSpec.upto ruleAnySpec)) ruleAnyUptoCard

/-- THE SECOND FORM's CARD OF 'exequaturlaw14.RuleNeeds'. -/
def ruleNeedsUptoCard : Claim7 := { stood := { row := ruleNeedsUptoRow, standIns := [], harness := (true, "c7c67a5c82181f9af87d03747d5290f1fa2ba433ec042c7fcb8ccf42a52f2cec"), looks := false }, kinds := [], alts := [], laidByText := true, laidKinds := [.data, .pinned], laidTests := true, laidLooks := .later }
def RuleNeedsUptoCardSaid : Prop := Claim7.holds Tryd.pinned (.plain (OpenSpec.upto ruleNeedsSpec)) ruleNeedsUptoCard

/-- THE SECOND FORM's CARD OF 'exequaturlaw14.RuleOrder'. -/
def ruleOrderUptoCard : Claim7 := { stood := { row := ruleOrderUptoRow, standIns := [], harness := (true, "c7c67a5c82181f9af87d03747d5290f1fa2ba433ec042c7fcb8ccf42a52f2cec"), looks := false }, kinds := [], alts := [], laidByText := true, laidKinds := [.data, .pinned], laidTests := true, laidLooks := .later }
def RuleOrderUptoCardSaid : Prop := Claim7.holds Tryd.pinned (.plain (OpenSpec.upto ruleOrderSpec)) ruleOrderUptoCard
end Rows
end Go.Proofs.YtobicmpgfiddhaaDoor
