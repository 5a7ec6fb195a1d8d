/- The row's condition on hash.rounds gives the walks' fact; the door's own heap meets it. -/
import Derived.Test.YtdflghphjhejdaaDoorHashStir
import Derived.Lib.LaidTab
import Derived.LaidMore
import Derived.OpenShut
import Derived.ProofKit
import Derived.Stop.Joined
namespace Go.Proofs.YtdflghphjhejdaaDoor
open Go.ChangeShapes Go.WideShapes Go.ChangeAt Go.RowKit

/-- what the rows list -/
def listed : List (String × DataW Unit) := [("exequatur/hash.rounds", Rows.laid_exequatur_hash_rounds)]
def kInts : List Int := kL.map fun x => (x.toNat : Int)
theorem listed_eq : listed = [("exequatur/hash.rounds", Lib.tabData .u32 kInts)] := by kernel_rfl
theorem gRounds : Tryd.prog.globalNamed "exequatur/hash.rounds" = some 0 := by kernel_rfl
theorem tRounds : (Tryd.prog.globals[0]?).map (·.type) = some 45 := by kernel_rfl
theorem cellsWord : Tryd.prog.cellsOf 37 = 1 := by kernel_rfl
theorem cellsRounds : Tryd.prog.cellsOf 45 = 64 := by kernel_rfl
theorem kInts_len : kInts.length = 64 := by kernel_rfl
theorem roundsIn_of_laid {W : World} (h : laidMetH Tryd.prog listed W) : RoundsIn W := by
  rw [MakeChecks.laidMetH_plain _ _ _ (by kernel_rfl), listed_eq] at h
  have hT := Lib.tabIs_of_head gRounds tRounds Tryd.underlying45 Tryd.underlying37 cellsWord cellsRounds h
  have hc := fun i (hi : i < 64) => hT.cell gRounds i (by rw [kInts_len]; exact hi)
  refine ⟨fun j v hv => ?_, ?_⟩
  · rw [Nat.zero_add]
    have hj : j < 64 := by
      have := (List.getElem?_eq_some_iff.1 hv).1
      rw [Array.length_toList, kCells_size] at this; exact this
    rw [hc j hj, ← hv]
    have h1 := kCells_at j hj
    rw [← Array.getElem?_toList] at h1
    rw [h1]
    have hl : j < kL.length := hj
    simp [kInts, kAt, List.getD, hl]
  · have h0 := hc 0 (by decide)
    refine Nat.lt_of_not_le fun hle => ?_
    have : W.cell? ⟨0, 0, none⟩ = none := by
      simp [World.cell?, Array.getElem?_eq_none hle]
    rw [this] at h0; cases h0
theorem door_met (os : Os) (args : Array Value) : laidMetH Tryd.prog listed ((World.doorLaid Tryd.prog 400 os).forCall (fun _ _ => 0) ⟨#[], args, []⟩).memory :=
  laidMetH_of_parts3 (fuel := 8) (laidMet_of_run' 8 (by kernel_rfl) (by kernel_rfl)) (by kernel_rfl) (by kernel_rfl)
end Go.Proofs.YtdflghphjhejdaaDoor
