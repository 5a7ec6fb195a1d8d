/- The library's variables that numbers as text lean on: what holds of them, and that it stays. -/
import Derived.Test.YtefnkkjmcfpiaaaDoorCellar
import Derived.Lib.LaidTab
import Derived.Lib.ItoaNum
import Derived.Lib.SmallJoins
namespace Go.Proofs.YtefnkkjmcfpiaaaDoor
open Go.RowKit

theorem gPow : Tryd.prog.globalNamed "internal/strconv.uint64pow10" = some 0 := by kernel_rfl
/-- the table that a number's printing reads is as laid, below block B -/
structure TabIn (B : Nat) (w : World) : Prop where
  tab : Lib.TabIs Tryd.prog w "internal/strconv.uint64pow10" .u64 Lib.pow10Tab
  lt : 0 < B
theorem TabIn.below {B : Nat} {w w' : World} (h : TabIn B w) (hb : Below B w w') : TabIn B w' := by
  obtain ⟨h1, l1⟩ := h
  refine ⟨?_, l1⟩
  unfold Lib.TabIs at h1 ⊢
  rw [← h1]
  unfold World.var?
  rw [gPow]
  simp only [Option.bind_some]
  rw [hb.block _ l1]
theorem TabIn.more {B B' : Nat} {w : World} (h : TabIn B w) (hB : B ≤ B') : TabIn B' w := ⟨h.tab, Nat.lt_of_lt_of_le h.lt hB⟩
/-- the library's variables are as laid, below block B -/
structure KitIn (B : Nat) (w : World) : Prop where
  tab : Lib.TabIs Tryd.prog w "internal/strconv.uint64pow10" .u64 Lib.pow10Tab
  syn : ∃ ev, w.cell? ⟨2, 0, none⟩ = some ev ∧ (ev = .nilIface ∨ ∃ te pe, ev = .iface te pe)
  rng : ∃ ev, w.cell? ⟨3, 0, none⟩ = some ev ∧ (ev = .nilIface ∨ ∃ te pe, ev = .iface te pe)
  lt : 0 < B ∧ 2 < B ∧ 3 < B
theorem KitIn.below {B : Nat} {w w' : World} (h : KitIn B w) (hb : Below B w w') : KitIn B w' := by
  obtain ⟨h1, ⟨e2, h2, h2'⟩, ⟨e3, h3, h3'⟩, l1, l2, l3⟩ := h
  refine ⟨?_, ⟨e2, (hb.cell (p := ⟨2, 0, none⟩) l2).trans h2, h2'⟩, ⟨e3, (hb.cell (p := ⟨3, 0, none⟩) l3).trans h3, h3'⟩, l1, l2, l3⟩
  unfold Lib.TabIs at h1 ⊢
  rw [← h1]
  unfold World.var?
  rw [gPow]
  simp only [Option.bind_some]
  rw [hb.block _ l1]
theorem KitIn.toTab {B : Nat} {w : World} (h : KitIn B w) : TabIn B w := ⟨h.tab, h.lt.1⟩
theorem KitIn.more {B B' : Nat} {w : World} (h : KitIn B w) (hB : B ≤ B') : KitIn B' w := ⟨h.tab, h.syn, h.rng, Nat.lt_of_lt_of_le h.lt.1 hB, Nat.lt_of_lt_of_le h.lt.2.1 hB, Nat.lt_of_lt_of_le h.lt.2.2 hB⟩
end Go.Proofs.YtefnkkjmcfpiaaaDoor
