/- Pieces of a function's code, taken out of the translation by a function: a region by its number, a loop by its first region. -/
import Derived.Test.YtdflghphjhejdaaDoorBase
namespace Go.Proofs.YtdflghphjhejdaaDoor

def regionOf (n : Nat) : Code → Option Code
  | .region i ops d => if i = n then some (.region i ops d) else none
  | .loop c => regionOf n c
  | .seq a b => match regionOf n a with
    | some c => some c
    | none => regionOf n b
  | .block _ c => regionOf n c
  | .scope c => regionOf n c
  | .cond _ a b => match regionOf n a with
    | some c => some c
    | none => regionOf n b
  | _ => none
def firstRegion : Code → Option Nat
  | .region i _ _ => some i
  | .loop c => firstRegion c
  | .seq a b => match firstRegion a with
    | some c => some c
    | none => firstRegion b
  | .block _ c => firstRegion c
  | .scope c => firstRegion c
  | .cond _ a b => match firstRegion a with
    | some c => some c
    | none => firstRegion b
  | _ => none
/-- the loop whose first region has this number -/
def loopOf (n : Nat) : Code → Option Code
  | .loop c => if firstRegion c = some n then some (.loop c) else loopOf n c
  | .seq a b => match loopOf n a with
    | some c => some c
    | none => loopOf n b
  | .block _ c => loopOf n c
  | .scope c => loopOf n c
  | .cond _ a b => match loopOf n a with
    | some c => some c
    | none => loopOf n b
  | _ => none
end Go.Proofs.YtdflghphjhejdaaDoor
