/- A tape as functions of lists: what is written, made sure, set anew, lost. -/
import Derived.Test.YtokijikcgoihmaaRows
namespace Go.Proofs.Ytokijikcgoihmaa

/-- a tape: its bytes, how many are sure, how many more may be done (below 0: no fuse), whether the power is gone -/
structure TP where
  b : List UInt8
  sure : Nat
  fuse : Int
  down : Bool
  deriving DecidableEq
def TP.new : TP := ⟨[], 0, -1, false⟩
/-- how many of so many bytes may be done -/
def TP.left (t : TP) (n : Nat) : Nat := if t.down = true then 0 else if t.fuse < 0 ∨ (n : Int) ≤ t.fuse then n else t.fuse.toNat
/-- so many are done of so many -/
def TP.use (t : TP) (k n : Nat) : TP × Int := if t.down = true then (t, 8) else if k < n then (⟨t.b, t.sure, 0, true⟩, 8) else if 0 < t.fuse then (⟨t.b, t.sure, t.fuse - n, t.down⟩, 0) else (t, 0)
def TP.write (t : TP) (l : List UInt8) : TP × Int := TP.use ⟨t.b ++ l.take (t.left l.length), t.sure, t.fuse, t.down⟩ (t.left l.length) l.length
def TP.sync (t : TP) : TP × Int := if (t.use (t.left 1) 1).2 = 0 then (⟨(t.use (t.left 1) 1).1.b, (t.use (t.left 1) 1).1.b.length, (t.use (t.left 1) 1).1.fuse, (t.use (t.left 1) 1).1.down⟩, 0) else t.use (t.left 1) 1
def TP.swap (t : TP) (l : List UInt8) : TP × Int := if (t.use (t.left (l.length + 1)) (l.length + 1)).2 = 0 then (⟨l, l.length, (t.use (t.left (l.length + 1)) (l.length + 1)).1.fuse, (t.use (t.left (l.length + 1)) (l.length + 1)).1.down⟩, 0) else t.use (t.left (l.length + 1)) (l.length + 1)
def TP.setFuse (t : TP) (n : Int) : TP := ⟨t.b, t.sure, if n < 0 then 0 else n, t.down⟩
/-- how many loose bytes stay -/
def TP.kept (t : TP) (keep : Int) : Nat := if keep < 0 then 0 else if ((t.b.length - t.sure : Nat) : Int) < keep then t.b.length - t.sure else keep.toNat
def TP.crash (t : TP) (keep : Int) : TP := ⟨t.b.take (t.sure + t.kept keep), t.sure + t.kept keep, -1, false⟩

/-- no more is sure than there is -/
structure TP.Ok (t : TP) : Prop where
  sure : t.sure ≤ t.b.length
  fuse : -1 ≤ t.fuse ∧ t.fuse ≤ 9223372036854775807
theorem TP.new_ok : TP.new.Ok := ⟨Nat.le_refl _, by decide, by decide⟩
theorem TP.left_le (t : TP) (n : Nat) : t.left n ≤ n := by
  unfold TP.left
  split
  · omega
  · split <;> omega
theorem TP.use_b (t : TP) (k n : Nat) : (t.use k n).1.b = t.b ∧ (t.use k n).1.sure = t.sure := by
  unfold TP.use
  split
  · exact ⟨rfl, rfl⟩
  · split
    · exact ⟨rfl, rfl⟩
    · split <;> exact ⟨rfl, rfl⟩
theorem TP.use_fuse {t : TP} (h : -1 ≤ t.fuse ∧ t.fuse ≤ 9223372036854775807) (n : Nat) : -1 ≤ (t.use (t.left n) n).1.fuse ∧ (t.use (t.left n) n).1.fuse ≤ 9223372036854775807 := by
  unfold TP.use
  split
  · exact h
  · rename_i hd
    split
    · exact ⟨show (-1 : Int) ≤ 0 by decide, show (0 : Int) ≤ 9223372036854775807 by decide⟩
    · rename_i hk
      split
      · rename_i hf
        show -1 ≤ t.fuse - n ∧ t.fuse - n ≤ _
        have : (n : Int) ≤ t.fuse := by
          unfold TP.left at hk
          rw [if_neg hd] at hk
          split at hk
          · omega
          · omega
        omega
      · exact h
theorem TP.use_err (t : TP) (k n : Nat) : (t.use k n).2 = 0 ∨ (t.use k n).2 = 8 := by
  unfold TP.use
  split
  · exact .inr rfl
  · split
    · exact .inr rfl
    · split <;> exact .inl rfl
theorem TP.write_ok {t : TP} (h : t.Ok) (l : List UInt8) : (t.write l).1.Ok ∧ (t.write l).1.b.length ≤ t.b.length + l.length := by
  unfold TP.write
  have hb := TP.use_b ⟨t.b ++ l.take (t.left l.length), t.sure, t.fuse, t.down⟩ (t.left l.length) l.length
  have hf := TP.use_fuse (t := ⟨t.b ++ l.take (t.left l.length), t.sure, t.fuse, t.down⟩) h.fuse l.length
  refine ⟨⟨?_, hf⟩, ?_⟩
  · rw [hb.1, hb.2]; simp only [List.length_append]; have := h.sure; omega
  · rw [hb.1]; simp only [List.length_append, List.length_take]; omega
theorem TP.sync_ok {t : TP} (h : t.Ok) : t.sync.1.Ok ∧ t.sync.1.b = t.b := by
  unfold TP.sync
  have hb := TP.use_b t (t.left 1) 1
  have hf := TP.use_fuse h.fuse 1
  split
  · exact ⟨⟨Nat.le_refl _, hf⟩, hb.1⟩
  · exact ⟨⟨by rw [hb.1, hb.2]; exact h.sure, hf⟩, hb.1⟩
theorem TP.swap_ok {t : TP} (h : t.Ok) (l : List UInt8) : (t.swap l).1.Ok ∧ (t.swap l).1.b.length ≤ t.b.length + l.length := by
  unfold TP.swap
  have hb := TP.use_b t (t.left (l.length + 1)) (l.length + 1)
  have hf := TP.use_fuse h.fuse (l.length + 1)
  split
  · exact ⟨⟨Nat.le_refl _, hf⟩, by show l.length ≤ _; omega⟩
  · exact ⟨⟨by rw [hb.1, hb.2]; exact h.sure, hf⟩, by rw [hb.1]; omega⟩
theorem TP.fuse_ok {t : TP} (h : t.Ok) (n : Int) (hn : n ≤ 9223372036854775807) : (t.setFuse n).Ok := by
  refine ⟨h.sure, ?_⟩
  show -1 ≤ (if n < 0 then (0 : Int) else n) ∧ (if n < 0 then (0 : Int) else n) ≤ _
  split <;> omega
theorem TP.kept_le (t : TP) (keep : Int) : t.kept keep ≤ t.b.length - t.sure := by
  unfold TP.kept
  split
  · omega
  · split <;> omega
theorem TP.crash_ok {t : TP} (h : t.Ok) (keep : Int) : (t.crash keep).Ok ∧ (t.crash keep).b.length = t.sure + t.kept keep ∧ t.sure + t.kept keep ≤ t.b.length := by
  have h1 := t.kept_le keep
  have h2 := h.sure
  have h3 : (t.b.take (t.sure + t.kept keep)).length = t.sure + t.kept keep := by rw [List.length_take]; omega
  exact ⟨⟨by show _ ≤ (t.b.take _).length; rw [h3]; exact Nat.le_refl _, show (-1 : Int) ≤ -1 by decide, show (-1 : Int) ≤ 9223372036854775807 by decide⟩, h3, by omega⟩
end Go.Proofs.Ytokijikcgoihmaa
