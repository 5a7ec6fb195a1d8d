/-
  No cell of these rows narrows 'for every input' (looked for: loops, veiled, ifaces, maps, wideKeys, modest, calm, conditions, laid).
  DERIVED. THE GIVEN ROWS OF THIS SEAT. 5 by the template 'for every input the law returns true; each argument reads behind the call as it read before'; 0 by the template 'total and deterministic' (their statements: YtdogcnlcefklkaaTotals.lean).
  GIVEN WITH THE SEED: the statements are not yours to turn. If you find one false, say at which input.
  Laid BY PROGRAM, IN A SANDBOX (cutbox-rows.mjs): the forced cells as the released guide's own fill.sh prints them over the translation d53f41ac183a6e77… (all of the seat's roots in one cut). By AI agents, Wed Nov 11 2026. No macro, syntax, notation, axiom, sorry.
-/
import Derived.Test.YtdogcnlcefklkaaChecked
import GoSem.Claim
import GoSem.ClaimJoined
import GoSem.ClaimMapViews
import Derived.JoinedTies
import Derived.KernelRfl
namespace Go.Proofs.Ytdogcnlcefklkaa
/- THE CELL 'sum', in the pinned program and in every row, IS THE sha256 OF THE DUMP (.gsa) THAT YtdogcnlcefklkaaProg.lean LOADS. Nothing in Lean hashes anything: it is a label: what it is worth is what the hold of that sum in a sandbox is worth. -/
noncomputable def Try.pinned : Pinned := { name := "ytdogcnlcefklkaa", sum := "d53f41ac183a6e77de9116f333abf67518dee69b7a4f1e2e379ccd8719c87997", checked := Try.checked }
namespace Rows
def none {H : Type} : Left H := { results := [], args := [] }

/-- 'exequaturlaw03.UriParts': WHATEVER THE INPUT: true; the input reads as it did. -/
def uriPartsSpec : ChangeSpec := { name := "uriParts", fn := fun _ => fun
  | [d] => { results := [.lit (.bool true)], args := [d] }
  | _ => none }
def uriPartsRow : OpenClaim := { program := "ytdogcnlcefklkaa", sum := "d53f41ac183a6e77de9116f333abf67518dee69b7a4f1e2e379ccd8719c87997", func := "exequatur/exequaturlaw03.UriParts", spec := "uriParts", inPlace := ["internal/bytealg.IndexByteString", "internal/bytealg.IndexString", "internal/abi.NoEscape"], named := ["internal/bytealg.MaxLen"], apart := false }
def UriPartsSaid : Prop := uriPartsRow.holds Try.pinned (OpenSpec.ofChange uriPartsSpec)

/-- ITS FALSE NEIGHBOUR: 'it returns false'. Refute it at one input. -/
def uriPartsWrong : ChangeSpec := { name := "uriParts", fn := fun _ => fun
  | [d] => { results := [.lit (.bool false)], args := [d] }
  | _ => none }
def UriPartsWrongFalsely : Prop := uriPartsRow.holds Try.pinned (OpenSpec.ofChange uriPartsWrong)

/-- 'exequaturlaw03.UriWith': WHATEVER THE INPUT: true; the input reads as it did. -/
def uriWithSpec : ChangeSpec := { name := "uriWith", fn := fun _ => fun
  | [d1, d2] => { results := [.lit (.bool true)], args := [d1, d2] }
  | _ => none }
def uriWithRow : OpenClaim := { program := "ytdogcnlcefklkaa", sum := "d53f41ac183a6e77de9116f333abf67518dee69b7a4f1e2e379ccd8719c87997", func := "exequatur/exequaturlaw03.UriWith", spec := "uriWith", inPlace := ["internal/bytealg.IndexByteString", "internal/bytealg.IndexString", "internal/abi.NoEscape"], named := ["internal/bytealg.MaxLen"], apart := false }
def UriWithSaid : Prop := uriWithRow.holds Try.pinned (OpenSpec.ofChange uriWithSpec)

/-- ITS FALSE NEIGHBOUR: 'it returns false'. Refute it at one input. -/
def uriWithWrong : ChangeSpec := { name := "uriWith", fn := fun _ => fun
  | [d1, d2] => { results := [.lit (.bool false)], args := [d1, d2] }
  | _ => none }
def UriWithWrongFalsely : Prop := uriWithRow.holds Try.pinned (OpenSpec.ofChange uriWithWrong)

/-- 'exequaturlaw03.UriPrint': WHATEVER THE INPUT: true; the input reads as it did. -/
def uriPrintSpec : ChangeSpec := { name := "uriPrint", fn := fun _ => fun
  | [d] => { results := [.lit (.bool true)], args := [d] }
  | _ => none }
def uriPrintRow : OpenClaim := { program := "ytdogcnlcefklkaa", sum := "d53f41ac183a6e77de9116f333abf67518dee69b7a4f1e2e379ccd8719c87997", func := "exequatur/exequaturlaw03.UriPrint", spec := "uriPrint", inPlace := ["internal/bytealg.IndexByteString", "internal/bytealg.IndexString", "internal/abi.NoEscape"], named := ["internal/bytealg.MaxLen"], apart := false }
def UriPrintSaid : Prop := uriPrintRow.holds Try.pinned (OpenSpec.ofChange uriPrintSpec)

/-- ITS FALSE NEIGHBOUR: 'it returns false'. Refute it at one input. -/
def uriPrintWrong : ChangeSpec := { name := "uriPrint", fn := fun _ => fun
  | [d] => { results := [.lit (.bool false)], args := [d] }
  | _ => none }
def UriPrintWrongFalsely : Prop := uriPrintRow.holds Try.pinned (OpenSpec.ofChange uriPrintWrong)

/-- 'exequaturlaw03.UriBytes': WHATEVER THE INPUT: true; the input reads as it did. -/
def uriBytesSpec : ChangeSpec := { name := "uriBytes", fn := fun _ => fun
  | [d1, d2] => { results := [.lit (.bool true)], args := [d1, d2] }
  | _ => none }
def uriBytesRow : OpenClaim := { program := "ytdogcnlcefklkaa", sum := "d53f41ac183a6e77de9116f333abf67518dee69b7a4f1e2e379ccd8719c87997", func := "exequatur/exequaturlaw03.UriBytes", spec := "uriBytes", inPlace := ["internal/bytealg.IndexByteString", "internal/bytealg.IndexString", "internal/abi.NoEscape"], named := ["internal/bytealg.MaxLen"], apart := false }
def UriBytesSaid : Prop := uriBytesRow.holds Try.pinned (OpenSpec.ofChange uriBytesSpec)

/-- ITS FALSE NEIGHBOUR: 'it returns false'. Refute it at one input. -/
def uriBytesWrong : ChangeSpec := { name := "uriBytes", fn := fun _ => fun
  | [d1, d2] => { results := [.lit (.bool false)], args := [d1, d2] }
  | _ => none }
def UriBytesWrongFalsely : Prop := uriBytesRow.holds Try.pinned (OpenSpec.ofChange uriBytesWrong)

/-- 'exequaturlaw03.UriAgain': WHATEVER THE INPUT: true; the input reads as it did. -/
def uriAgainSpec : ChangeSpec := { name := "uriAgain", fn := fun _ => fun
  | [d1, d2] => { results := [.lit (.bool true)], args := [d1, d2] }
  | _ => none }
def uriAgainRow : OpenClaim := { program := "ytdogcnlcefklkaa", sum := "d53f41ac183a6e77de9116f333abf67518dee69b7a4f1e2e379ccd8719c87997", func := "exequatur/exequaturlaw03.UriAgain", spec := "uriAgain", inPlace := ["internal/bytealg.IndexByteString", "internal/bytealg.IndexString", "internal/abi.NoEscape"], named := ["internal/bytealg.MaxLen"], apart := false }
def UriAgainSaid : Prop := uriAgainRow.holds Try.pinned (OpenSpec.ofChange uriAgainSpec)

/-- ITS FALSE NEIGHBOUR: 'it returns false'. Refute it at one input. -/
def uriAgainWrong : ChangeSpec := { name := "uriAgain", fn := fun _ => fun
  | [d1, d2] => { results := [.lit (.bool false)], args := [d1, d2] }
  | _ => none }
def UriAgainWrongFalsely : Prop := uriAgainRow.holds Try.pinned (OpenSpec.ofChange uriAgainWrong)

/- THE SECOND FORM. 'bulk': how many values and letters a reading holds, each counted each time it is reached (what is shared counts as often as it is met; a slice's spare places count too). A statement '..UptoSaid' is the law's where the arguments, and the package variables that the reading takes, are together of bulk at most 1048576: NARROWER than '..Said'. Prove '..Said' where nothing that the law and all that it calls make is longer than what came in: it says more and counts as full. Else prove '..UptoSaid'. A law counts once. -/
mutual
def uptoBulk {H : Type} : DataW H → Nat
  | .lit (.string bytes) => bytes.length + 1
  | .lit _ => 1
  | .nil => 1
  | .ptr d => uptoBulk d + 1
  | .slice elems spare => uptoBulkAll elems + uptoBulkAll spare + 1
  | .agg parts => uptoBulkAll parts + 1
  | .iface _ d => uptoBulk d + 1
  | .map entries => uptoBulkEntries entries + 1
  | .held _ => 1
def uptoBulkAll {H : Type} : List (DataW H) → Nat
  | [] => 0
  | d :: r => uptoBulk d + uptoBulkAll r
def uptoBulkEntries {H : Type} : List (Lit × DataW H) → Nat
  | [] => 0
  | x :: r => uptoBulkEntry x + uptoBulkEntries r
def uptoBulkEntry {H : Type} : Lit × DataW H → Nat
  | (.string bytes, d) => bytes.length + uptoBulk d + 1
  | (_, d) => uptoBulk d + 1
 end
def uptoSmall : (H : Type) → List (DataW H) → Bool := fun _ ds => decide (uptoBulkAll ds ≤ 1048576)
def OpenSpec.upto (s : _root_.Go.ChangeSpec) : _root_.Go.OpenSpec := { _root_.Go.OpenSpec.ofChange s with cond := some uptoSmall }

/-- 'exequaturlaw03.UriParts', WHERE WHAT IT READS IS OF BULK AT MOST 1048576: true; the input reads as it did. -/
def uriPartsUptoRow : OpenClaim := { program := "ytdogcnlcefklkaa", sum := "d53f41ac183a6e77de9116f333abf67518dee69b7a4f1e2e379ccd8719c87997", func := "exequatur/exequaturlaw03.UriParts", spec := "uriParts", inPlace := ["internal/bytealg.IndexByteString", "internal/bytealg.IndexString", "internal/abi.NoEscape"], named := ["internal/bytealg.MaxLen"], apart := false, narrowed := true }
def UriPartsUptoSaid : Prop := uriPartsUptoRow.holds Try.pinned (OpenSpec.upto uriPartsSpec)

/-- 'exequaturlaw03.UriWith', WHERE WHAT IT READS IS OF BULK AT MOST 1048576: true; the input reads as it did. -/
def uriWithUptoRow : OpenClaim := { program := "ytdogcnlcefklkaa", sum := "d53f41ac183a6e77de9116f333abf67518dee69b7a4f1e2e379ccd8719c87997", func := "exequatur/exequaturlaw03.UriWith", spec := "uriWith", inPlace := ["internal/bytealg.IndexByteString", "internal/bytealg.IndexString", "internal/abi.NoEscape"], named := ["internal/bytealg.MaxLen"], apart := false, narrowed := true }
def UriWithUptoSaid : Prop := uriWithUptoRow.holds Try.pinned (OpenSpec.upto uriWithSpec)

/-- 'exequaturlaw03.UriPrint', WHERE WHAT IT READS IS OF BULK AT MOST 1048576: true; the input reads as it did. -/
def uriPrintUptoRow : OpenClaim := { program := "ytdogcnlcefklkaa", sum := "d53f41ac183a6e77de9116f333abf67518dee69b7a4f1e2e379ccd8719c87997", func := "exequatur/exequaturlaw03.UriPrint", spec := "uriPrint", inPlace := ["internal/bytealg.IndexByteString", "internal/bytealg.IndexString", "internal/abi.NoEscape"], named := ["internal/bytealg.MaxLen"], apart := false, narrowed := true }
def UriPrintUptoSaid : Prop := uriPrintUptoRow.holds Try.pinned (OpenSpec.upto uriPrintSpec)

/-- 'exequaturlaw03.UriBytes', WHERE WHAT IT READS IS OF BULK AT MOST 1048576: true; the input reads as it did. -/
def uriBytesUptoRow : OpenClaim := { program := "ytdogcnlcefklkaa", sum := "d53f41ac183a6e77de9116f333abf67518dee69b7a4f1e2e379ccd8719c87997", func := "exequatur/exequaturlaw03.UriBytes", spec := "uriBytes", inPlace := ["internal/bytealg.IndexByteString", "internal/bytealg.IndexString", "internal/abi.NoEscape"], named := ["internal/bytealg.MaxLen"], apart := false, narrowed := true }
def UriBytesUptoSaid : Prop := uriBytesUptoRow.holds Try.pinned (OpenSpec.upto uriBytesSpec)

/-- 'exequaturlaw03.UriAgain', WHERE WHAT IT READS IS OF BULK AT MOST 1048576: true; the input reads as it did. -/
def uriAgainUptoRow : OpenClaim := { program := "ytdogcnlcefklkaa", sum := "d53f41ac183a6e77de9116f333abf67518dee69b7a4f1e2e379ccd8719c87997", func := "exequatur/exequaturlaw03.UriAgain", spec := "uriAgain", inPlace := ["internal/bytealg.IndexByteString", "internal/bytealg.IndexString", "internal/abi.NoEscape"], named := ["internal/bytealg.MaxLen"], apart := false, narrowed := true }
def UriAgainUptoSaid : Prop := uriAgainUptoRow.holds Try.pinned (OpenSpec.upto uriAgainSpec)

end Rows
end Go.Proofs.Ytdogcnlcefklkaa
