/-
  No cell of these rows narrows 'for every input' (looked for: loops, veiled, ifaces, maps, wideKeys, modest, calm, conditions, laid).
  DERIVED. THE GIVEN ROWS OF THIS SEAT. 12 by the template 'for every input the law returns true; each argument reads behind the call as it read before'; 0 by the template 'total and deterministic' (their statements: YthinbheplcameaaTotals.lean).
  GIVEN WITH THE SEED: the statements are not yours to turn. If you find one false, say at which input.
  Laid BY PROGRAM, IN A SANDBOX (cutbox-rows.mjs): the forced cells as the released guide's own fill.sh prints them over the translation 2985d1fbb39783eb… (all of the seat's roots in one cut). By AI agents, Wed Nov 11 2026. No macro, syntax, notation, axiom, sorry.
-/
import Derived.Test.YthinbheplcameaaChecked
import GoSem.Claim
import GoSem.ClaimJoined
import GoSem.ClaimMapViews
import Derived.JoinedTies
import Derived.KernelRfl
namespace Go.Proofs.Ythinbheplcameaa
/- THE CELL 'sum', in the pinned program and in every row, IS THE sha256 OF THE DUMP (.gsa) THAT YthinbheplcameaaProg.lean LOADS. Nothing in Lean hashes anything: it is a label: what it is worth is what the hold of that sum in a sandbox is worth. -/
noncomputable def Try.pinned : Pinned := { name := "ythinbheplcameaa", sum := "2985d1fbb39783ebbb139bf23520677f7cafe53ae76e9de3d8590ecfa2bb8408", checked := Try.checked }
namespace Rows
def none {H : Type} : Left H := { results := [], args := [] }

/-- 'exequaturlaw01.TextBack': WHATEVER THE INPUT: true; the input reads as it did. -/
def textBackSpec : ChangeSpec := { name := "textBack", fn := fun _ => fun
  | [d] => { results := [.lit (.bool true)], args := [d] }
  | _ => none }
def textBackRow : OpenClaim := { program := "ythinbheplcameaa", sum := "2985d1fbb39783ebbb139bf23520677f7cafe53ae76e9de3d8590ecfa2bb8408", func := "exequatur/exequaturlaw01.TextBack", spec := "textBack", inPlace := ["internal/bytealg.IndexByteString"], apart := false }
def TextBackSaid : Prop := textBackRow.holds Try.pinned (OpenSpec.ofChange textBackSpec)

/-- ITS FALSE NEIGHBOUR: 'it returns false'. Refute it at one input. -/
def textBackWrong : ChangeSpec := { name := "textBack", fn := fun _ => fun
  | [d] => { results := [.lit (.bool false)], args := [d] }
  | _ => none }
def TextBackWrongFalsely : Prop := textBackRow.holds Try.pinned (OpenSpec.ofChange textBackWrong)

/-- 'exequaturlaw01.TextReads': WHATEVER THE INPUT: true; the input reads as it did. -/
def textReadsSpec : ChangeSpec := { name := "textReads", fn := fun _ => fun
  | [d] => { results := [.lit (.bool true)], args := [d] }
  | _ => none }
def textReadsRow : OpenClaim := { program := "ythinbheplcameaa", sum := "2985d1fbb39783ebbb139bf23520677f7cafe53ae76e9de3d8590ecfa2bb8408", func := "exequatur/exequaturlaw01.TextReads", spec := "textReads", inPlace := ["internal/bytealg.IndexByteString"], apart := false }
def TextReadsSaid : Prop := textReadsRow.holds Try.pinned (OpenSpec.ofChange textReadsSpec)

/-- ITS FALSE NEIGHBOUR: 'it returns false'. Refute it at one input. -/
def textReadsWrong : ChangeSpec := { name := "textReads", fn := fun _ => fun
  | [d] => { results := [.lit (.bool false)], args := [d] }
  | _ => none }
def TextReadsWrongFalsely : Prop := textReadsRow.holds Try.pinned (OpenSpec.ofChange textReadsWrong)

/-- 'exequaturlaw01.TextEqual': WHATEVER THE INPUT: true; the input reads as it did. -/
def textEqualSpec : ChangeSpec := { name := "textEqual", fn := fun _ => fun
  | [d1, d2] => { results := [.lit (.bool true)], args := [d1, d2] }
  | _ => none }
def textEqualRow : OpenClaim := { program := "ythinbheplcameaa", sum := "2985d1fbb39783ebbb139bf23520677f7cafe53ae76e9de3d8590ecfa2bb8408", func := "exequatur/exequaturlaw01.TextEqual", spec := "textEqual", inPlace := ["internal/bytealg.IndexByteString"], apart := false }
def TextEqualSaid : Prop := textEqualRow.holds Try.pinned (OpenSpec.ofChange textEqualSpec)

/-- ITS FALSE NEIGHBOUR: 'it returns false'. Refute it at one input. -/
def textEqualWrong : ChangeSpec := { name := "textEqual", fn := fun _ => fun
  | [d1, d2] => { results := [.lit (.bool false)], args := [d1, d2] }
  | _ => none }
def TextEqualWrongFalsely : Prop := textEqualRow.holds Try.pinned (OpenSpec.ofChange textEqualWrong)

/-- 'exequaturlaw01.TextQuotes': WHATEVER THE INPUT: true; the input reads as it did. -/
def textQuotesSpec : ChangeSpec := { name := "textQuotes", fn := fun _ => fun
  | [d1, d2] => { results := [.lit (.bool true)], args := [d1, d2] }
  | _ => none }
def textQuotesRow : OpenClaim := { program := "ythinbheplcameaa", sum := "2985d1fbb39783ebbb139bf23520677f7cafe53ae76e9de3d8590ecfa2bb8408", func := "exequatur/exequaturlaw01.TextQuotes", spec := "textQuotes", inPlace := ["internal/bytealg.IndexByteString"], apart := false }
def TextQuotesSaid : Prop := textQuotesRow.holds Try.pinned (OpenSpec.ofChange textQuotesSpec)

/-- ITS FALSE NEIGHBOUR: 'it returns false'. Refute it at one input. -/
def textQuotesWrong : ChangeSpec := { name := "textQuotes", fn := fun _ => fun
  | [d1, d2] => { results := [.lit (.bool false)], args := [d1, d2] }
  | _ => none }
def TextQuotesWrongFalsely : Prop := textQuotesRow.holds Try.pinned (OpenSpec.ofChange textQuotesWrong)

/-- 'exequaturlaw01.TextLengths': WHATEVER THE INPUT: true; the input reads as it did. -/
def textLengthsSpec : ChangeSpec := { name := "textLengths", fn := fun _ => fun
  | [d] => { results := [.lit (.bool true)], args := [d] }
  | _ => none }
def textLengthsRow : OpenClaim := { program := "ythinbheplcameaa", sum := "2985d1fbb39783ebbb139bf23520677f7cafe53ae76e9de3d8590ecfa2bb8408", func := "exequatur/exequaturlaw01.TextLengths", spec := "textLengths", inPlace := ["internal/bytealg.IndexByteString"], apart := false }
def TextLengthsSaid : Prop := textLengthsRow.holds Try.pinned (OpenSpec.ofChange textLengthsSpec)

/-- ITS FALSE NEIGHBOUR: 'it returns false'. Refute it at one input. -/
def textLengthsWrong : ChangeSpec := { name := "textLengths", fn := fun _ => fun
  | [d] => { results := [.lit (.bool false)], args := [d] }
  | _ => none }
def TextLengthsWrongFalsely : Prop := textLengthsRow.holds Try.pinned (OpenSpec.ofChange textLengthsWrong)

/-- 'exequaturlaw01.TextPlain': WHATEVER THE INPUT: true; the input reads as it did. -/
def textPlainSpec : ChangeSpec := { name := "textPlain", fn := fun _ => fun
  | [d1, d2] => { results := [.lit (.bool true)], args := [d1, d2] }
  | _ => none }
def textPlainRow : OpenClaim := { program := "ythinbheplcameaa", sum := "2985d1fbb39783ebbb139bf23520677f7cafe53ae76e9de3d8590ecfa2bb8408", func := "exequatur/exequaturlaw01.TextPlain", spec := "textPlain", inPlace := ["internal/bytealg.IndexByteString"], apart := false }
def TextPlainSaid : Prop := textPlainRow.holds Try.pinned (OpenSpec.ofChange textPlainSpec)

/-- ITS FALSE NEIGHBOUR: 'it returns false'. Refute it at one input. -/
def textPlainWrong : ChangeSpec := { name := "textPlain", fn := fun _ => fun
  | [d1, d2] => { results := [.lit (.bool false)], args := [d1, d2] }
  | _ => none }
def TextPlainWrongFalsely : Prop := textPlainRow.holds Try.pinned (OpenSpec.ofChange textPlainWrong)

/-- 'exequaturlaw01.TextUnquote': WHATEVER THE INPUT: true; the input reads as it did. -/
def textUnquoteSpec : ChangeSpec := { name := "textUnquote", fn := fun _ => fun
  | [d1, d2] => { results := [.lit (.bool true)], args := [d1, d2] }
  | _ => none }
def textUnquoteRow : OpenClaim := { program := "ythinbheplcameaa", sum := "2985d1fbb39783ebbb139bf23520677f7cafe53ae76e9de3d8590ecfa2bb8408", func := "exequatur/exequaturlaw01.TextUnquote", spec := "textUnquote", inPlace := ["internal/bytealg.IndexByteString"], apart := false }
def TextUnquoteSaid : Prop := textUnquoteRow.holds Try.pinned (OpenSpec.ofChange textUnquoteSpec)

/-- ITS FALSE NEIGHBOUR: 'it returns false'. Refute it at one input. -/
def textUnquoteWrong : ChangeSpec := { name := "textUnquote", fn := fun _ => fun
  | [d1, d2] => { results := [.lit (.bool false)], args := [d1, d2] }
  | _ => none }
def TextUnquoteWrongFalsely : Prop := textUnquoteRow.holds Try.pinned (OpenSpec.ofChange textUnquoteWrong)

/-- 'exequaturlaw02.PairsParse': WHATEVER THE INPUT: true; the input reads as it did. -/
def pairsParseSpec : ChangeSpec := { name := "pairsParse", fn := fun _ => fun
  | [d] => { results := [.lit (.bool true)], args := [d] }
  | _ => none }
def pairsParseRow : OpenClaim := { program := "ythinbheplcameaa", sum := "2985d1fbb39783ebbb139bf23520677f7cafe53ae76e9de3d8590ecfa2bb8408", func := "exequatur/exequaturlaw02.PairsParse", spec := "pairsParse", inPlace := ["internal/bytealg.IndexByteString", "internal/bytealg.IndexString", "internal/abi.NoEscape"], unfollowed := true, recurses := true, named := ["internal/bytealg.MaxLen"], apart := false }
def PairsParseSaid : Prop := pairsParseRow.holds Try.pinned (OpenSpec.ofChange pairsParseSpec)

/-- ITS FALSE NEIGHBOUR: 'it returns false'. Refute it at one input. -/
def pairsParseWrong : ChangeSpec := { name := "pairsParse", fn := fun _ => fun
  | [d] => { results := [.lit (.bool false)], args := [d] }
  | _ => none }
def PairsParseWrongFalsely : Prop := pairsParseRow.holds Try.pinned (OpenSpec.ofChange pairsParseWrong)

/-- 'exequaturlaw02.PairsBack': WHATEVER THE INPUT: true; the input reads as it did. -/
def pairsBackSpec : ChangeSpec := { name := "pairsBack", fn := fun _ => fun
  | [d] => { results := [.lit (.bool true)], args := [d] }
  | _ => none }
def pairsBackRow : OpenClaim := { program := "ythinbheplcameaa", sum := "2985d1fbb39783ebbb139bf23520677f7cafe53ae76e9de3d8590ecfa2bb8408", func := "exequatur/exequaturlaw02.PairsBack", spec := "pairsBack", inPlace := ["internal/bytealg.IndexByteString", "internal/bytealg.IndexString", "internal/abi.NoEscape"], unfollowed := true, recurses := true, named := ["internal/bytealg.MaxLen"], apart := false }
def PairsBackSaid : Prop := pairsBackRow.holds Try.pinned (OpenSpec.ofChange pairsBackSpec)

/-- ITS FALSE NEIGHBOUR: 'it returns false'. Refute it at one input. -/
def pairsBackWrong : ChangeSpec := { name := "pairsBack", fn := fun _ => fun
  | [d] => { results := [.lit (.bool false)], args := [d] }
  | _ => none }
def PairsBackWrongFalsely : Prop := pairsBackRow.holds Try.pinned (OpenSpec.ofChange pairsBackWrong)

/-- 'exequaturlaw02.PairsGet': WHATEVER THE INPUT: true; the input reads as it did. -/
def pairsGetSpec : ChangeSpec := { name := "pairsGet", fn := fun _ => fun
  | [d1, d2] => { results := [.lit (.bool true)], args := [d1, d2] }
  | _ => none }
def pairsGetRow : OpenClaim := { program := "ythinbheplcameaa", sum := "2985d1fbb39783ebbb139bf23520677f7cafe53ae76e9de3d8590ecfa2bb8408", func := "exequatur/exequaturlaw02.PairsGet", spec := "pairsGet", inPlace := ["internal/bytealg.IndexByteString", "internal/bytealg.IndexString", "internal/abi.NoEscape"], unfollowed := true, recurses := true, named := ["internal/bytealg.MaxLen"], apart := false }
def PairsGetSaid : Prop := pairsGetRow.holds Try.pinned (OpenSpec.ofChange pairsGetSpec)

/-- ITS FALSE NEIGHBOUR: 'it returns false'. Refute it at one input. -/
def pairsGetWrong : ChangeSpec := { name := "pairsGet", fn := fun _ => fun
  | [d1, d2] => { results := [.lit (.bool false)], args := [d1, d2] }
  | _ => none }
def PairsGetWrongFalsely : Prop := pairsGetRow.holds Try.pinned (OpenSpec.ofChange pairsGetWrong)

/-- 'exequaturlaw02.PairsLimits': WHATEVER THE INPUT: true; the input reads as it did. -/
def pairsLimitsSpec : ChangeSpec := { name := "pairsLimits", fn := fun _ => fun
  | [d1, d2] => { results := [.lit (.bool true)], args := [d1, d2] }
  | _ => none }
def pairsLimitsRow : OpenClaim := { program := "ythinbheplcameaa", sum := "2985d1fbb39783ebbb139bf23520677f7cafe53ae76e9de3d8590ecfa2bb8408", func := "exequatur/exequaturlaw02.PairsLimits", spec := "pairsLimits", inPlace := ["internal/bytealg.IndexByteString", "internal/bytealg.IndexString", "internal/abi.NoEscape"], unfollowed := true, recurses := true, named := ["internal/bytealg.MaxLen"], apart := false }
def PairsLimitsSaid : Prop := pairsLimitsRow.holds Try.pinned (OpenSpec.ofChange pairsLimitsSpec)

/-- ITS FALSE NEIGHBOUR: 'it returns false'. Refute it at one input. -/
def pairsLimitsWrong : ChangeSpec := { name := "pairsLimits", fn := fun _ => fun
  | [d1, d2] => { results := [.lit (.bool false)], args := [d1, d2] }
  | _ => none }
def PairsLimitsWrongFalsely : Prop := pairsLimitsRow.holds Try.pinned (OpenSpec.ofChange pairsLimitsWrong)

/-- 'exequaturlaw02.PairsEmpty': WHATEVER THE INPUT: true; the input reads as it did. -/
def pairsEmptySpec : ChangeSpec := { name := "pairsEmpty", fn := fun _ => fun
  | [d1, d2] => { results := [.lit (.bool true)], args := [d1, d2] }
  | _ => none }
def pairsEmptyRow : OpenClaim := { program := "ythinbheplcameaa", sum := "2985d1fbb39783ebbb139bf23520677f7cafe53ae76e9de3d8590ecfa2bb8408", func := "exequatur/exequaturlaw02.PairsEmpty", spec := "pairsEmpty", inPlace := ["internal/bytealg.IndexByteString", "internal/bytealg.IndexString", "internal/abi.NoEscape"], unfollowed := true, recurses := true, named := ["internal/bytealg.MaxLen"], apart := false }
def PairsEmptySaid : Prop := pairsEmptyRow.holds Try.pinned (OpenSpec.ofChange pairsEmptySpec)

/-- ITS FALSE NEIGHBOUR: 'it returns false'. Refute it at one input. -/
def pairsEmptyWrong : ChangeSpec := { name := "pairsEmpty", fn := fun _ => fun
  | [d1, d2] => { results := [.lit (.bool false)], args := [d1, d2] }
  | _ => none }
def PairsEmptyWrongFalsely : Prop := pairsEmptyRow.holds Try.pinned (OpenSpec.ofChange pairsEmptyWrong)

/- THE SECOND FORM. 'bulk': how many values and letters a reading holds, each counted each time it is reached (what is shared counts as often as it is met; a slice's spare places count too). A statement '..UptoSaid' is the law's where the arguments, and the package variables that the reading takes, are together of bulk at most 1048576: NARROWER than '..Said'. Prove '..Said' where nothing that the law and all that it calls make is longer than what came in: it says more and counts as full. Else prove '..UptoSaid'. A law counts once. -/
mutual
def uptoBulk {H : Type} : DataW H → Nat
  | .lit (.string bytes) => bytes.length + 1
  | .lit _ => 1
  | .nil => 1
  | .ptr d => uptoBulk d + 1
  | .slice elems spare => uptoBulkAll elems + uptoBulkAll spare + 1
  | .agg parts => uptoBulkAll parts + 1
  | .iface _ d => uptoBulk d + 1
  | .map entries => uptoBulkEntries entries + 1
  | .held _ => 1
def uptoBulkAll {H : Type} : List (DataW H) → Nat
  | [] => 0
  | d :: r => uptoBulk d + uptoBulkAll r
def uptoBulkEntries {H : Type} : List (Lit × DataW H) → Nat
  | [] => 0
  | x :: r => uptoBulkEntry x + uptoBulkEntries r
def uptoBulkEntry {H : Type} : Lit × DataW H → Nat
  | (.string bytes, d) => bytes.length + uptoBulk d + 1
  | (_, d) => uptoBulk d + 1
 end
def uptoSmall : (H : Type) → List (DataW H) → Bool := fun _ ds => decide (uptoBulkAll ds ≤ 1048576)
def OpenSpec.upto (s : _root_.Go.ChangeSpec) : _root_.Go.OpenSpec := { _root_.Go.OpenSpec.ofChange s with cond := some uptoSmall }

/-- 'exequaturlaw01.TextBack', WHERE WHAT IT READS IS OF BULK AT MOST 1048576: true; the input reads as it did. -/
def textBackUptoRow : OpenClaim := { program := "ythinbheplcameaa", sum := "2985d1fbb39783ebbb139bf23520677f7cafe53ae76e9de3d8590ecfa2bb8408", func := "exequatur/exequaturlaw01.TextBack", spec := "textBack", inPlace := ["internal/bytealg.IndexByteString"], apart := false, narrowed := true }
def TextBackUptoSaid : Prop := textBackUptoRow.holds Try.pinned (OpenSpec.upto textBackSpec)

/-- 'exequaturlaw01.TextReads', WHERE WHAT IT READS IS OF BULK AT MOST 1048576: true; the input reads as it did. -/
def textReadsUptoRow : OpenClaim := { program := "ythinbheplcameaa", sum := "2985d1fbb39783ebbb139bf23520677f7cafe53ae76e9de3d8590ecfa2bb8408", func := "exequatur/exequaturlaw01.TextReads", spec := "textReads", inPlace := ["internal/bytealg.IndexByteString"], apart := false, narrowed := true }
def TextReadsUptoSaid : Prop := textReadsUptoRow.holds Try.pinned (OpenSpec.upto textReadsSpec)

/-- 'exequaturlaw01.TextEqual', WHERE WHAT IT READS IS OF BULK AT MOST 1048576: true; the input reads as it did. -/
def textEqualUptoRow : OpenClaim := { program := "ythinbheplcameaa", sum := "2985d1fbb39783ebbb139bf23520677f7cafe53ae76e9de3d8590ecfa2bb8408", func := "exequatur/exequaturlaw01.TextEqual", spec := "textEqual", inPlace := ["internal/bytealg.IndexByteString"], apart := false, narrowed := true }
def TextEqualUptoSaid : Prop := textEqualUptoRow.holds Try.pinned (OpenSpec.upto textEqualSpec)

/-- 'exequaturlaw01.TextQuotes', WHERE WHAT IT READS IS OF BULK AT MOST 1048576: true; the input reads as it did. -/
def textQuotesUptoRow : OpenClaim := { program := "ythinbheplcameaa", sum := "2985d1fbb39783ebbb139bf23520677f7cafe53ae76e9de3d8590ecfa2bb8408", func := "exequatur/exequaturlaw01.TextQuotes", spec := "textQuotes", inPlace := ["internal/bytealg.IndexByteString"], apart := false, narrowed := true }
def TextQuotesUptoSaid : Prop := textQuotesUptoRow.holds Try.pinned (OpenSpec.upto textQuotesSpec)

/-- 'exequaturlaw01.TextLengths', WHERE WHAT IT READS IS OF BULK AT MOST 1048576: true; the input reads as it did. -/
def textLengthsUptoRow : OpenClaim := { program := "ythinbheplcameaa", sum := "2985d1fbb39783ebbb139bf23520677f7cafe53ae76e9de3d8590ecfa2bb8408", func := "exequatur/exequaturlaw01.TextLengths", spec := "textLengths", inPlace := ["internal/bytealg.IndexByteString"], apart := false, narrowed := true }
def TextLengthsUptoSaid : Prop := textLengthsUptoRow.holds Try.pinned (OpenSpec.upto textLengthsSpec)

/-- 'exequaturlaw01.TextPlain', WHERE WHAT IT READS IS OF BULK AT MOST 1048576: true; the input reads as it did. -/
def textPlainUptoRow : OpenClaim := { program := "ythinbheplcameaa", sum := "2985d1fbb39783ebbb139bf23520677f7cafe53ae76e9de3d8590ecfa2bb8408", func := "exequatur/exequaturlaw01.TextPlain", spec := "textPlain", inPlace := ["internal/bytealg.IndexByteString"], apart := false, narrowed := true }
def TextPlainUptoSaid : Prop := textPlainUptoRow.holds Try.pinned (OpenSpec.upto textPlainSpec)

/-- 'exequaturlaw01.TextUnquote', WHERE WHAT IT READS IS OF BULK AT MOST 1048576: true; the input reads as it did. -/
def textUnquoteUptoRow : OpenClaim := { program := "ythinbheplcameaa", sum := "2985d1fbb39783ebbb139bf23520677f7cafe53ae76e9de3d8590ecfa2bb8408", func := "exequatur/exequaturlaw01.TextUnquote", spec := "textUnquote", inPlace := ["internal/bytealg.IndexByteString"], apart := false, narrowed := true }
def TextUnquoteUptoSaid : Prop := textUnquoteUptoRow.holds Try.pinned (OpenSpec.upto textUnquoteSpec)

/-- 'exequaturlaw02.PairsParse', WHERE WHAT IT READS IS OF BULK AT MOST 1048576: true; the input reads as it did. -/
def pairsParseUptoRow : OpenClaim := { program := "ythinbheplcameaa", sum := "2985d1fbb39783ebbb139bf23520677f7cafe53ae76e9de3d8590ecfa2bb8408", func := "exequatur/exequaturlaw02.PairsParse", spec := "pairsParse", inPlace := ["internal/bytealg.IndexByteString", "internal/bytealg.IndexString", "internal/abi.NoEscape"], unfollowed := true, recurses := true, named := ["internal/bytealg.MaxLen"], apart := false, narrowed := true }
def PairsParseUptoSaid : Prop := pairsParseUptoRow.holds Try.pinned (OpenSpec.upto pairsParseSpec)

/-- 'exequaturlaw02.PairsBack', WHERE WHAT IT READS IS OF BULK AT MOST 1048576: true; the input reads as it did. -/
def pairsBackUptoRow : OpenClaim := { program := "ythinbheplcameaa", sum := "2985d1fbb39783ebbb139bf23520677f7cafe53ae76e9de3d8590ecfa2bb8408", func := "exequatur/exequaturlaw02.PairsBack", spec := "pairsBack", inPlace := ["internal/bytealg.IndexByteString", "internal/bytealg.IndexString", "internal/abi.NoEscape"], unfollowed := true, recurses := true, named := ["internal/bytealg.MaxLen"], apart := false, narrowed := true }
def PairsBackUptoSaid : Prop := pairsBackUptoRow.holds Try.pinned (OpenSpec.upto pairsBackSpec)

/-- 'exequaturlaw02.PairsGet', WHERE WHAT IT READS IS OF BULK AT MOST 1048576: true; the input reads as it did. -/
def pairsGetUptoRow : OpenClaim := { program := "ythinbheplcameaa", sum := "2985d1fbb39783ebbb139bf23520677f7cafe53ae76e9de3d8590ecfa2bb8408", func := "exequatur/exequaturlaw02.PairsGet", spec := "pairsGet", inPlace := ["internal/bytealg.IndexByteString", "internal/bytealg.IndexString", "internal/abi.NoEscape"], unfollowed := true, recurses := true, named := ["internal/bytealg.MaxLen"], apart := false, narrowed := true }
def PairsGetUptoSaid : Prop := pairsGetUptoRow.holds Try.pinned (OpenSpec.upto pairsGetSpec)

/-- 'exequaturlaw02.PairsLimits', WHERE WHAT IT READS IS OF BULK AT MOST 1048576: true; the input reads as it did. -/
def pairsLimitsUptoRow : OpenClaim := { program := "ythinbheplcameaa", sum := "2985d1fbb39783ebbb139bf23520677f7cafe53ae76e9de3d8590ecfa2bb8408", func := "exequatur/exequaturlaw02.PairsLimits", spec := "pairsLimits", inPlace := ["internal/bytealg.IndexByteString", "internal/bytealg.IndexString", "internal/abi.NoEscape"], unfollowed := true, recurses := true, named := ["internal/bytealg.MaxLen"], apart := false, narrowed := true }
def PairsLimitsUptoSaid : Prop := pairsLimitsUptoRow.holds Try.pinned (OpenSpec.upto pairsLimitsSpec)

/-- 'exequaturlaw02.PairsEmpty', WHERE WHAT IT READS IS OF BULK AT MOST 1048576: true; the input reads as it did. -/
def pairsEmptyUptoRow : OpenClaim := { program := "ythinbheplcameaa", sum := "2985d1fbb39783ebbb139bf23520677f7cafe53ae76e9de3d8590ecfa2bb8408", func := "exequatur/exequaturlaw02.PairsEmpty", spec := "pairsEmpty", inPlace := ["internal/bytealg.IndexByteString", "internal/bytealg.IndexString", "internal/abi.NoEscape"], unfollowed := true, recurses := true, named := ["internal/bytealg.MaxLen"], apart := false, narrowed := true }
def PairsEmptyUptoSaid : Prop := pairsEmptyUptoRow.holds Try.pinned (OpenSpec.upto pairsEmptySpec)

end Rows
end Go.Proofs.Ythinbheplcameaa
