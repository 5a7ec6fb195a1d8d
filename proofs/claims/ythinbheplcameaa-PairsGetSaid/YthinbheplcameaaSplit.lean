/- The reference's Split: a row of texts of the call's own. -/
import Derived.Test.YthinbheplcameaaCut
namespace Go.Proofs.Ythinbheplcameaa
open Go.RowKit

theorem Try.infoStr : (Try.prog.info? 9).map (fun i => (i.zero, i.size, i.bytes)) = some (some (.string .empty), 1, 16) := by kernel_rfl
/-- texts as cells -/
def scells (l : List (List UInt8)) : List Value := l.map fun p => Value.string ⟨p.toArray⟩
theorem scells_snoc (l : List (List UInt8)) (p : List UInt8) : scells (l ++ [p]) = scells l ++ [.string ⟨p.toArray⟩] := by simp [scells]
theorem scells_len (l : List (List UInt8)) : (scells l).length = l.length := by simp [scells]
/-- a row of texts of the call's own -/
def Strs (w : World) (B : Nat) (v : Value) (l : List (List UInt8)) : Prop := w.ownsRow B 9 1 v l.length (scells l)
theorem Strs.cut {w : World} {B : Nat} {v : Value} {n : Nat} {l : List (List UInt8)} {xs : List Value} (h : w.ownsRow B 9 1 v n xs) (hn : n = l.length) (hx : xs = scells l) : Strs w B v l := by subst hn; subst hx; exact h
theorem str_cell (s : ByteArray) : ∀ u ∈ [Value.string s], u.oneCell' = true := by intro u hu; simp at hu; subst hu; rfl
def slen : Value → Nat
  | .string b => b.size
  | _ => 0
theorem ret_val {a b : Value} (h : a = b) : Ending.returned a = .returned b := by rw [h]

set_option maxRecDepth 100000 in
theorem split_any (s : ByteArray) (c : UInt8) (hs : s.size ≤ 1048576) (w : World) :
    Calls Try.prog 43 #[.string s, .int .u8 c.toNat] w fun e w' => ∃ v, e = .returned v ∧ Strs w' w.heap.size v (splitL c s.data.toList) ∧ Below w.heap.size w w' := by
  obtain ⟨i0, hi, hz0, hz1, hz2⟩ := info_parts Try.infoStr
  go_enter Try.func43, Try.ntmps43
  go_wp2
  go_loopw [0, 5] (fun sv v wr => ∃ (pre : List (List UInt8)) (rest : ByteArray), sv = .string rest ∧ Strs wr w.heap.size v pre ∧ splitL c s.data.toList = pre ++ splitL c rest.data.toList ∧ pre.length + rest.size ≤ s.size ∧ Below w.heap.size w wr) (fun sv _ _ => slen sv)
  case atStart => exact ⟨[], s, rfl, World.ownsRow_nil _ _ _ _, rfl, by simp, Below.refl _ _⟩
  case round =>
    obtain ⟨pre, rest, rfl, hown, hsp, hln, hb⟩ := hrel
    have hle := atL_le c rest.data.toList
    have hsz : rest.data.toList.length = rest.size := rfl
    rw [hsz] at hle
    have hmx : rest.size ≤ maxLen := by unfold maxLen; omega
    have hat := fun w => at_any rest c hmx w
    have H1 := @splitL_more c rest.data.toList
    have H2 := @splitL_last c rest.data.toList
    rw [hsz] at H1 H2
    obtain ⟨k, hk⟩ : ∃ k, atL c rest.data.toList = k := ⟨_, rfl⟩
    rw [hk] at hle hat H1 H2
    have HSP := Lib.hid hsp; have G1 := Lib.hid H1; have G2 := Lib.hid H2; clear hsp H1 H2 hk hsz hmx
    have hbs := hb.size
    by_cases hlt : k < rest.size
    · go_wp2_with (first
        | (go_at_call 44; refine (hat _).mono ?_; rintro e w' ⟨rfl, rfl⟩)
        | (at_builtin; refine wpList_append_own _ rfl (.tmp 10) (.tmp 14) 61 rfl w.heap.size 9 i0 _ 1 16 Try.underlying61 hi hz0 hz1 hz2 rfl (by decide) _ _ _ rfl (World.ownsRow.alloc hown _) ⟨_, 0, none⟩ 1 1 [.string (rest.extract 0 k)] rfl rfl (new_cells _ #[_] _) (str_cell _) (by unfold maxLen; omega) (by omega) (by simp; omega) ?_))
      intro v' w1 hown' hg' _
      have hb1 : Below w.heap.size w w1 := (hb.alloc hbs _).grown hg' (by simp; omega) (fun j hj => (hown.lt j hj).1)
      go_wp2
      go_roundw
      case rel => exact ⟨pre ++ [rest.data.toList.take k], rest.extract (k + 1) rest.size, rfl, Strs.cut hown' (by simp) (by rw [scells_snoc, ext_pre]), by
        rw [HSP.out, G1.out hlt, ext_suf]; simp, by rw [ext_size, List.length_append]; simp; omega, hb1⟩
      case measure => simp only [slen, ext_size]; omega
    · go_wp2_with (first
        | (go_at_call 44; refine (hat _).mono ?_; rintro e w' ⟨rfl, rfl⟩)
        | (at_builtin; refine wpList_append_own _ rfl (.tmp 10) (.tmp 14) 61 rfl w.heap.size 9 i0 _ 1 16 Try.underlying61 hi hz0 hz1 hz2 rfl (by decide) _ _ _ rfl (World.ownsRow.alloc hown _) ⟨_, 0, none⟩ 1 1 [.string (rest.extract 0 k)] rfl rfl (new_cells _ #[_] _) (str_cell _) (by unfold maxLen; omega) (by omega) (by simp; omega) ?_))
      intro v' w1 hown' hg' _
      have hb1 : Below w.heap.size w w1 := (hb.alloc hbs _).grown hg' (by simp; omega) (fun j hj => (hown.lt j hj).1)
      go_wp2
      go_ret
      have hke : k = rest.size := by omega
      exact ⟨_, rfl, Strs.cut hown' (by rw [HSP.out, G2.out (by omega)]; simp) (by rw [HSP.out, G2.out (by omega), scells_snoc, hke, ext_pre]; congr 3; exact congrArg _ (by rw [take_all])), hb1⟩
end Go.Proofs.Ythinbheplcameaa
